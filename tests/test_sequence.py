import inspect
import unittest

from batchpipe.pipe import Pipe
from batchpipe.sequence import least_order, near_order, tree_of, waste_between


def a_pipe(thick=(), apart=(), rooms=(6, 4), table=((20, 1),)):
    # With these rooms and this table the half at the end is 1/2, so that the waste of two wares is their thickness.
    return Pipe(list(rooms), list(table), list(thick), list(apart), (1, 2))


def all_apart(wares):
    return [(one, other) for k, one in enumerate(wares) for other in wares[k + 1:]]


class Interface(unittest.TestCase):
    def test_the_arguments_have_their_names(self):
        self.assertEqual(list(inspect.signature(waste_between).parameters), ["pipe", "one", "other"])
        self.assertEqual(waste_between(pipe=a_pipe(), one="a", other="b"), (1, 1))
        for what in [least_order, tree_of, near_order]:
            self.assertEqual(list(inspect.signature(what).parameters), ["pipe", "wares"])
            self.assertEqual(what(pipe=a_pipe(), wares=["a", "b"])[1], (1, 1))

    def test_kinds(self):
        for what in [least_order, tree_of, near_order]:
            answer = what(a_pipe(), ["a", "b", "c"])
            self.assertIs(type(answer), tuple)
            self.assertEqual(len(answer), 2)
            self.assertIs(type(answer[0]), list)
            self.assertIs(type(answer[1]), tuple)
        for pair in tree_of(a_pipe(), ["a", "b", "c"])[0]:
            self.assertIs(type(pair), tuple)


class WasteBetween(unittest.TestCase):
    def test_twice_the_half_at_the_end(self):
        self.assertEqual(waste_between(a_pipe(table=[(20, 3)]), "a", "b"), (3, 1))
        self.assertEqual(waste_between(a_pipe(table=[(30, 2)]), "a", "b"), (4, 3))
        self.assertEqual(waste_between(a_pipe(table=[(3, 2)]), "a", "b"), (4, 1))
        self.assertEqual(waste_between(a_pipe(table=[]), "a", "b"), (0, 1))

    def test_all_rooms_count(self):
        self.assertEqual(waste_between(a_pipe(rooms=[1, 2, 3, 4, 5, 6], table=[(42, 2)]), "a", "b"), (2, 1))

    def test_thickness_in_either_order(self):
        pipe = a_pipe([("a", "b", 7), ("b", "c", 0)], table=[(30, 2)])
        self.assertEqual(waste_between(pipe, "a", "b"), (28, 3))
        self.assertEqual(waste_between(pipe, "b", "a"), (28, 3))
        self.assertEqual(waste_between(pipe, "c", "b"), (0, 1))
        self.assertEqual(waste_between(pipe, "a", "c"), (4, 3))

    def test_no_pig(self):
        self.assertEqual(waste_between(Pipe([10], [(10, 3)], [], [], (0, 1)), "a", "b"), (6, 1))

    def test_a_ware_and_itself(self):
        self.assertEqual(waste_between(a_pipe([("a", "b", 7)], [("a", "b")]), "a", "a"), (0, 1))

    def test_none_where_they_must_not_touch(self):
        pipe = a_pipe([("a", "b", 0)], [("a", "b")])
        self.assertIsNone(waste_between(pipe, "a", "b"))
        self.assertIsNone(waste_between(pipe, "b", "a"))
        self.assertEqual(waste_between(pipe, "b", "c"), (1, 1))


class LeastOrder(unittest.TestCase):
    def test_no_wares_and_one(self):
        self.assertEqual(least_order(a_pipe(), []), ([], (0, 1)))
        self.assertEqual(least_order(a_pipe(), ["a"]), ([0], (0, 1)))

    def test_two(self):
        self.assertEqual(least_order(a_pipe(), ["b", "a"]), ([0, 1], (1, 1)))
        self.assertIsNone(least_order(a_pipe(apart=[("a", "b")]), ["b", "a"]))

    def test_the_least_waste(self):
        pipe = a_pipe([("a", "b", 9), ("a", "c", 2), ("b", "c", 3)])
        self.assertEqual(least_order(pipe, ["a", "b", "c"]), ([0, 2, 1], (5, 1)))
        self.assertEqual(least_order(pipe, ["c", "a", "b"]), ([1, 0, 2], (5, 1)))
        self.assertEqual(least_order(pipe, ["b", "c", "a"]), ([0, 1, 2], (5, 1)))

    def test_of_several_the_one_whose_list_is_least(self):
        self.assertEqual(least_order(a_pipe(), ["d", "c", "b", "a"]), ([0, 1, 2, 3], (3, 1)))
        # a - d - b - c, and the same the other way round, which is less by its list.
        pipe = a_pipe([("a", "d", 0), ("b", "d", 0), ("b", "c", 0)])
        self.assertEqual(least_order(pipe, ["a", "b", "c", "d"]), ([0, 3, 1, 2], (0, 1)))
        self.assertEqual(least_order(pipe, ["c", "b", "d", "a"]), ([0, 1, 2, 3], (0, 1)))
        self.assertEqual(least_order(pipe, ["d", "c", "b", "a"]), ([1, 2, 0, 3], (0, 1)))

    def test_the_list_counts_by_its_first_unlike_number(self):
        # Both 0 2 1 3 and 0 3 1 2 have waste 3, as has 1 2 0 3; none has less.
        pipe = a_pipe([("a", "b", 5), ("c", "d", 5)])
        self.assertEqual(least_order(pipe, ["a", "b", "c", "d"]), ([0, 2, 1, 3], (3, 1)))

    def test_wares_alike(self):
        pipe = a_pipe([("a", "b", 4)])
        self.assertEqual(least_order(pipe, ["a", "b", "a", "b"]), ([0, 2, 1, 3], (4, 1)))
        self.assertEqual(least_order(pipe, ["b", "b", "b"]), ([0, 1, 2], (0, 1)))

    def test_wares_alike_that_go_round_others(self):
        # c and d must not touch, so that a lies between.
        pipe = a_pipe(apart=[("c", "d")])
        self.assertEqual(least_order(pipe, ["c", "d", "a"]), ([0, 2, 1], (2, 1)))
        self.assertEqual(least_order(pipe, ["c", "d", "c", "a"]), ([0, 2, 3, 1], (2, 1)))
        pipe = a_pipe([("a", "c", 1), ("a", "d", 1)], [("c", "d")])
        self.assertEqual(least_order(pipe, ["a", "c", "d", "a"]), ([1, 0, 3, 2], (2, 1)))

    def test_none_where_there_is_no_order(self):
        self.assertIsNone(least_order(a_pipe(apart=all_apart("abc")), ["a", "b", "c"]))
        # Each of three may touch m alone.
        self.assertIsNone(least_order(a_pipe(apart=all_apart("abc")), ["a", "b", "c", "m"]))
        answer = least_order(a_pipe(apart=all_apart("abc")), ["a", "b", "c", "m", "m"])
        self.assertEqual(answer, ([0, 3, 1, 4, 2], (4, 1)))

    def test_waste_is_taken_where_wares_must_not_touch(self):
        pipe = a_pipe([("a", "b", 0), ("b", "c", 20), ("a", "c", 1)], [("a", "c")])
        self.assertEqual(least_order(pipe, ["a", "b", "c"]), ([0, 1, 2], (20, 1)))

    def test_fractions_are_compared_by_their_worth(self):
        pipe = a_pipe([("a", "b", 3), ("a", "c", 2), ("b", "c", 10)], table=[(30, 1)])
        self.assertEqual(least_order(pipe, ["b", "c", "a"]), ([0, 2, 1], (10, 3)))

    def test_without_a_table_all_orders_are_alike(self):
        pipe = a_pipe([("a", "b", 20)], [("a", "c")], table=[])
        self.assertEqual(least_order(pipe, ["a", "c", "b"]), ([0, 2, 1], (0, 1)))

    def test_seven_wares(self):
        # A ring of which each step has thickness 1, and all else 5.
        thick = [pair + (5,) for pair in all_apart("abcdefg")]
        ring = [frozenset(pair) for pair in ["ac", "ce", "eg", "gb", "bd", "df", "fa"]]
        thick = [(one, other, 1 if frozenset((one, other)) in ring else k) for one, other, k in thick]
        self.assertEqual(least_order(a_pipe(thick), list("abcdefg")), ([0, 2, 4, 6, 1, 3, 5], (6, 1)))
        self.assertEqual(least_order(a_pipe(), ["a"] * 7), ([0, 1, 2, 3, 4, 5, 6], (0, 1)))

    def test_somewhat_more_wares(self):
        self.assertEqual(least_order(a_pipe(), list("abcdefghij")), (list(range(10)), (9, 1)))

    def test_great_numbers(self):
        pipe = Pipe([10 ** 6] * 6, [(10 ** 6, 10 ** 6)], [("a", "b", 20)], [], (1, 1))
        self.assertEqual(least_order(pipe, ["a", "b"]), ([0, 1], (40 * 10 ** 6, 1)))


class TreeOf(unittest.TestCase):
    def test_one_and_two(self):
        self.assertEqual(tree_of(a_pipe(), ["a"]), ([], (0, 1)))
        self.assertEqual(tree_of(a_pipe(), ["b", "a"]), ([(0, 1)], (1, 1)))
        self.assertIsNone(tree_of(a_pipe(apart=[("a", "b")]), ["b", "a"]))

    def test_the_least_weight(self):
        pipe = a_pipe([("a", "b", 9), ("a", "c", 2), ("b", "c", 3)])
        self.assertEqual(tree_of(pipe, ["a", "b", "c"]), ([(0, 2), (1, 2)], (5, 1)))
        self.assertEqual(tree_of(pipe, ["c", "a", "b"]), ([(0, 1), (0, 2)], (5, 1)))

    def test_the_pairs_rise(self):
        near = [("a", "e"), ("d", "e"), ("b", "d"), ("b", "c")]
        pipe = a_pipe([pair + (5,) for pair in all_apart("abcde") if pair not in near])
        self.assertEqual(tree_of(pipe, list("abcde")), ([(0, 4), (1, 2), (1, 3), (3, 4)], (4, 1)))
        self.assertEqual(tree_of(pipe, list("edcba")), ([(0, 1), (0, 4), (1, 3), (2, 3)], (4, 1)))

    def test_a_star(self):
        pipe = a_pipe([("m", ware, 0) for ware in "abc"], all_apart("abc"))
        self.assertEqual(tree_of(pipe, ["a", "b", "m", "c"]), ([(0, 2), (1, 2), (2, 3)], (0, 1)))
        self.assertIsNone(least_order(pipe, ["a", "b", "m", "c"]))

    def test_wares_alike(self):
        self.assertEqual(tree_of(a_pipe(), ["a", "a"]), ([(0, 1)], (0, 1)))
        answer = tree_of(a_pipe([("a", "b", 4)]), ["a", "b", "a", "b"])
        self.assertEqual(answer[1], (4, 1))
        self.assertEqual([pair for pair in answer[0] if pair in [(0, 2), (1, 3)]], [(0, 2), (1, 3)])

    def test_none_where_nothing_joins_all(self):
        pipe = a_pipe(apart=[("a", "c"), ("a", "d"), ("b", "c"), ("b", "d")])
        self.assertIsNone(tree_of(pipe, ["a", "b", "c", "d"]))
        self.assertIsNone(tree_of(pipe, ["a", "d", "a"]))
        self.assertEqual(tree_of(pipe, ["a", "b", "a"])[1], (1, 1))
        self.assertEqual(len(tree_of(pipe, ["a", "b", "c", "d", "e"])[0]), 4)

    def test_fractions(self):
        self.assertEqual(tree_of(a_pipe([("a", "b", 3)], table=[(30, 1)]), ["a", "b", "c"])[1], (4, 3))

    def test_twenty_wares(self):
        wares = [chr(97 + number) for number in range(20)]
        pairs, weight = tree_of(a_pipe(), wares)
        self.assertEqual((len(pairs), weight), (19, (19, 1)))
        # Those at the beginning must not touch one another.
        self.assertEqual(tree_of(a_pipe(apart=all_apart(wares[:9])), wares)[1], (19, 1))


class NearOrder(unittest.TestCase):
    def test_one_and_two(self):
        self.assertEqual(near_order(a_pipe(), ["a"]), ([0], (0, 1)))
        self.assertEqual(near_order(a_pipe(), ["b", "a"]), ([0, 1], (1, 1)))
        self.assertIsNone(near_order(a_pipe(apart=[("a", "b")]), ["b", "a"]))

    def test_the_nearest_comes_next(self):
        pipe = a_pipe([("a", "b", 9), ("a", "c", 4), ("a", "d", 2), ("d", "b", 3), ("d", "c", 8), ("b", "c", 6)])
        self.assertEqual(near_order(pipe, ["a", "b", "c", "d"]), ([0, 3, 1, 2], (11, 1)))

    def test_it_begins_with_the_first(self):
        pipe = a_pipe([("a", "b", 9), ("a", "c", 2), ("b", "c", 3)])
        self.assertEqual(near_order(pipe, ["c", "a", "b"]), ([0, 1, 2], (11, 1)))
        self.assertEqual(near_order(pipe, ["b", "a", "c"]), ([0, 2, 1], (5, 1)))

    def test_of_several_the_least_number(self):
        self.assertEqual(near_order(a_pipe(), ["d", "c", "b", "a"]), ([0, 1, 2, 3], (3, 1)))
        pipe = a_pipe([("a", "b", 2)])
        self.assertEqual(near_order(pipe, ["a", "b", "d", "c"]), ([0, 2, 1, 3], (3, 1)))

    def test_those_that_must_not_touch_are_passed_over(self):
        pipe = a_pipe([("a", "b", 0), ("a", "c", 5), ("b", "c", 7)], [("a", "b")])
        self.assertEqual(near_order(pipe, ["a", "b", "c"]), ([0, 2, 1], (12, 1)))

    def test_wares_alike(self):
        self.assertEqual(near_order(a_pipe(), ["a", "b", "a", "b", "a"]), ([0, 2, 4, 1, 3], (1, 1)))

    def test_it_comes_to_an_end(self):
        # 0 2 1 is an order, but behind 1, which is nearer, none may come.
        pipe = a_pipe([("a", "b", 0)], [("b", "c")])
        self.assertIsNone(near_order(pipe, ["a", "b", "c"]))
        self.assertEqual(least_order(pipe, ["a", "b", "c"]), ([1, 0, 2], (1, 1)))
        self.assertIsNone(near_order(a_pipe(apart=[("a", "b"), ("a", "c")]), ["a", "b", "c"]))

    def test_fractions(self):
        pipe = a_pipe([("a", "b", 3), ("b", "c", 4)], table=[(30, 1)])
        self.assertEqual(near_order(pipe, ["a", "b", "c"]), ([0, 2, 1], (10, 3)))

    def test_twenty_wares(self):
        wares = [chr(97 + number) for number in range(20)]
        thick = [(wares[k], wares[k + 2], 0) for k in range(18)]
        wanted = list(range(0, 20, 2)) + list(range(1, 20, 2))
        self.assertEqual(near_order(a_pipe(thick), wares), (wanted, (1, 1)))
        self.assertEqual(near_order(a_pipe(), ["a"] * 20), (list(range(20)), (0, 1)))


if __name__ == "__main__":
    unittest.main()
