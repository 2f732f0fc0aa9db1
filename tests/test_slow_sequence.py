"""Holds orders of wares against trials of all orders, and of all sets of pairs, over many drawn pipes."""
import itertools
import random
import unittest
from fractions import Fraction

from batchpipe.sequence import least_order, near_order, tree_of, waste_between
from drawing import drawn_pipe_fields, pipe_of
from slow_pipe import as_pair, slow_half_at, slow_thick_of

ENDLESS = Fraction(10 ** 12)


class SlowWastes:
    """The wastes between wares by their numbers; endless where two must not touch."""

    def __init__(self, fields, wares):
        rooms, table, thick, apart, pig = fields
        half = slow_half_at(table, sum(rooms))
        clashes = {frozenset(pair) for pair in apart}
        self.numbers = range(len(wares))
        self.between = {}
        for p in self.numbers:
            for q in self.numbers:
                waste = 0 if wares[p] == wares[q] else 2 * half * slow_thick_of(thick, wares[p], wares[q])
                self.between[p, q] = ENDLESS if frozenset((wares[p], wares[q])) in clashes else waste

    def of_order(self, order):
        return sum(self.between[pair] for pair in zip(order, order[1:]))

    def least_order(self):
        waste, order = min((self.of_order(order), order) for order in itertools.permutations(self.numbers))
        return None if waste >= ENDLESS else (list(order), as_pair(waste))

    def near_order(self):
        """Of all orders that begin with 0 the one that is least step by step, by waste and number."""
        orders = [order for order in itertools.permutations(self.numbers) if order[0] == 0]
        order = min(orders, key=lambda order: [(self.between[pair], pair[1]) for pair in zip(order, order[1:])])
        waste = self.of_order(order)
        return None if waste >= ENDLESS else (list(order), as_pair(waste))

    def joins(self, pairs):
        groups = {number: number for number in self.numbers}
        for p, q in pairs:
            groups = {number: groups[p] if group == groups[q] else group for number, group in groups.items()}
        return len(set(groups.values())) == 1

    def least_weight(self):
        """By trial of all sets of pairs."""
        pairs = list(itertools.combinations(self.numbers, 2))
        sets = [chosen for chosen in itertools.combinations(pairs, len(self.numbers) - 1) if self.joins(chosen)]
        weight = min(sum(self.between[pair] for pair in chosen) for chosen in sets)
        return None if weight >= ENDLESS else as_pair(weight)

    def grown_weight(self):
        """By taking the least pairs first that join something, for many wares."""
        chosen = []
        weight = 0
        groups = {number: number for number in self.numbers}
        for p, q in sorted(itertools.combinations(self.numbers, 2), key=lambda pair: self.between[pair]):
            if groups[p] != groups[q]:
                groups = {number: groups[p] if group == groups[q] else group for number, group in groups.items()}
                weight += self.between[p, q]
                chosen.append((p, q))
        return None if weight >= ENDLESS else as_pair(weight)


class DrawnWares(unittest.TestCase):
    def drawn(self, draw, count, most_apart):
        names = ["a", "b", "c", "d", "e", "f", "g"]
        fields = drawn_pipe_fields(draw, names, most_apart)
        fields[2] = [pair + (draw.randint(0, 4),) for pair in itertools.combinations(names, 2) if draw.random() < 0.8]
        if draw.random() < 0.8:
            fields[1] = [(sum(fields[0]) + draw.randint(0, 3), draw.randint(1, 5))]
        wares = [draw.choice(names) for number in range(count)]
        if count <= len(names) and draw.random() < 0.7:
            wares = draw.sample(names, count)
        return fields, wares

    def assert_tree(self, slow, answer, weight):
        if weight is None:
            self.assertIsNone(answer)
            return
        pairs, told = answer
        self.assertEqual(told, weight)
        self.assertEqual(pairs, sorted(set(pairs)))
        self.assertEqual(len(pairs), len(slow.numbers) - 1)
        self.assertTrue(slow.joins(pairs))
        self.assertTrue(all(p < q and slow.between[p, q] < ENDLESS for p, q in pairs))
        self.assertEqual(as_pair(sum(slow.between[pair] for pair in pairs)), weight)

    def assert_bounded(self, pipe, wares):
        """No order, the near one neither, has less waste than the tree's weight."""
        tree, near = tree_of(pipe, wares), near_order(pipe, wares)
        least = least_order(pipe, wares) if len(wares) <= 7 else near
        if tree is None:
            self.assertIsNone(near)
            self.assertIsNone(least)
        if near is not None:
            self.assertIsNotNone(least)
            self.assertGreaterEqual(Fraction(*near[1]), Fraction(*least[1]))
        if least is not None:
            self.assertGreaterEqual(Fraction(*least[1]), Fraction(*tree[1]))

    def test_all_orders_and_all_sets_of_pairs(self):
        draw = random.Random(21)
        count = {"order": 0, "no order": 0, "no near order": 0, "no tree": 0}
        for number in range(500):
            fields, wares = self.drawn(draw, draw.randint(1, 5), draw.choice([0, 3, 12]))
            pipe, slow = pipe_of(fields), SlowWastes(fields, wares)
            kept = list(wares)
            with self.subTest(number=number):
                least, near, tree = least_order(pipe, wares), near_order(pipe, wares), tree_of(pipe, wares)
                self.assertEqual(least, slow.least_order())
                self.assertEqual(near, slow.near_order())
                self.assert_tree(slow, tree, slow.least_weight())
                self.assert_bounded(pipe, wares)
                self.assertEqual(wares, kept)
                for (p, q), waste in slow.between.items():
                    told = waste_between(pipe, wares[p], wares[q])
                    self.assertEqual(told, None if waste == ENDLESS else as_pair(waste))
            count["order" if least else "no order"] += 1
            count["no near order"] += least is not None and near is None
            count["no tree"] += tree is None
        for what, times in count.items():
            self.assertGreater(times, 20, what)

    def test_the_most_wares_that_all_orders_are_tried_of(self):
        draw = random.Random(22)
        for number in range(24):
            fields, wares = self.drawn(draw, draw.randint(6, 7), draw.choice([0, 5, 9]))
            pipe, slow = pipe_of(fields), SlowWastes(fields, wares)
            with self.subTest(number=number):
                self.assertEqual(least_order(pipe, wares), slow.least_order())
                self.assertEqual(near_order(pipe, wares), slow.near_order())
                self.assert_tree(slow, tree_of(pipe, wares), slow.grown_weight())
                self.assert_bounded(pipe, wares)

    def test_many_wares(self):
        draw = random.Random(23)
        for number in range(60):
            fields, wares = self.drawn(draw, draw.randint(8, 20), draw.choice([0, 5, 9]))
            pipe, slow = pipe_of(fields), SlowWastes(fields, wares)
            with self.subTest(number=number):
                self.assert_tree(slow, tree_of(pipe, wares), slow.grown_weight())
                self.assert_near_by_steps(slow, near_order(pipe, wares))
                self.assert_bounded(pipe, wares)

    def assert_near_by_steps(self, slow, answer):
        order = [0]
        while len(order) < len(slow.numbers):
            waste, following = min((slow.between[order[-1], k], k) for k in slow.numbers if k not in order)
            if waste == ENDLESS:
                self.assertIsNone(answer)
                return
            order.append(following)
        self.assertEqual(answer, (order, as_pair(slow.of_order(order))))


if __name__ == "__main__":
    unittest.main()
