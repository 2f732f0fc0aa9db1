"""Holds the program against the slow reckoning, over many drawn pipes, fills and pushes."""
import random
import unittest
from fractions import Fraction

from batchpipe.content import Content, meetings, pigs, stretches, ware_at
from batchpipe.errors import Touch
from batchpipe.pushing import pushed
from batchpipe.touching import first_touch
from batchpipe.views import amounts_of, mixed_of, told, told_out
from drawing import WARES, drawn_fill, drawn_pipe_fields, drawn_push, pipe_of, scaled_fields
from slow_pipe import SlowPipe, SlowTouch, as_pair, slow_view_of_out


def state_of(content):
    return (stretches(content), meetings(content), pigs(content))


def slow_amounts(row):
    amounts = {}
    for entry in row:
        amounts[entry[0]] = amounts.get(entry[0], 0) + entry[1]
    return [(ware, as_pair(amounts[ware])) for ware in sorted(amounts)]


def slow_mixed(view):
    lengths = [Fraction(*stop) - Fraction(*start) for start, stop, shares in view if len(shares) > 1]
    return as_pair(sum(lengths))


def times_scale(fraction, scale):
    return as_pair(Fraction(*fraction) * scale)


def scaled_view(view, scale):
    return [
        (times_scale(start, scale), times_scale(stop, scale), [(ware, times_scale(x, scale)) for ware, x in shares])
        for start, stop, shares in view
    ]


class AgainstUnits(unittest.TestCase):
    def assert_same_content(self, content, slow):
        self.assertEqual(state_of(content), (slow.stretches(), slow.meetings(), slow.pigs()))
        self.assertEqual([ware_at(content, place) for place in range(slow.end)], slow.units)
        view = slow.told()
        self.assertEqual(told(content), view)
        self.assertEqual(mixed_of(told(content)), slow_mixed(view))
        self.assertEqual(amounts_of(told(content)), slow_amounts(slow.stretches()))

    def assert_same_out(self, out, slow_out):
        self.assertEqual(out, slow_out)
        view = slow_view_of_out(slow_out)
        self.assertEqual(told_out(out), view)
        self.assertEqual(mixed_of(told_out(out)), slow_mixed(view))
        self.assertEqual(amounts_of(told_out(out)), slow_amounts(slow_out))

    def push_both(self, content, slow, push):
        """The two later ones; None where the push is refused."""
        before = state_of(content)
        try:
            slow_later, slow_out, slow_caught = slow.pushed(*push)
        except SlowTouch as error:
            self.assertEqual(first_touch(content, *push[:4]), error.pair)
            with self.assertRaises(Touch) as caught:
                pushed(content, *push)
            self.assertEqual(caught.exception.pair, error.pair)
            self.assertEqual(state_of(content), before)
            return None
        self.assertIsNone(first_touch(content, *push[:4]))
        later, out, caught = pushed(content, *push)
        self.assertEqual(caught, slow_caught)
        self.assert_same_out(out, slow_out)
        self.assert_same_content(later, slow_later)
        self.assertEqual(state_of(content), before)
        return later, slow_later

    def started(self, draw, wares, most_apart):
        """A pipe's fields, a fill that may lie in it, both reckonings of it."""
        while True:
            fields = drawn_pipe_fields(draw, wares, most_apart)
            fill = drawn_fill(draw, wares, sum(fields[0]))
            slow = SlowPipe(*fields, fill)
            clashes = [
                pair for pair in zip(slow.units, slow.units[1:]) if pair in fields[3] or pair[::-1] in fields[3]
            ]
            if not clashes:
                return fields, Content(pipe_of(fields), fill), slow
            with self.assertRaises(Touch) as caught:
                Content(pipe_of(fields), fill)
            self.assertEqual(caught.exception.pair, clashes[0])

    def run_drawn(self, seed, rounds, wares, most_apart):
        draw = random.Random(seed)
        done = refused = 0
        for number in range(rounds):
            fields, content, slow = self.started(draw, wares, most_apart)
            with self.subTest(seed=seed, number=number):
                self.assert_same_content(content, slow)
                for turn in range(10):
                    both = self.push_both(content, slow, drawn_push(draw, wares, fields[0]))
                    if both is None:
                        refused += 1
                    else:
                        content, slow = both
                        done += 1
        return done, refused

    def test_many_drawn_pushes(self):
        done, refused = self.run_drawn(1, 400, WARES, 0)
        self.assertEqual((done, refused), (4000, 0))

    def test_two_wares_alone(self):
        self.run_drawn(2, 200, WARES[:2], 0)

    def test_wares_that_must_not_touch(self):
        done, refused = self.run_drawn(3, 600, WARES, 3)
        self.assertGreater(done, 500)
        self.assertGreater(refused, 500)

    def test_two_pushes_are_as_one_of_both_volumes(self):
        draw = random.Random(4)
        for number in range(120):
            fields, content, slow = self.started(draw, WARES, 0)
            for turn in range(8):
                i, j, ware, volume, pig = drawn_push(draw, WARES, fields[0])
                more = draw.randint(1, 9)
                whole, out, caught = pushed(content, i, j, ware, volume + more, pig)
                half_way, first_out, first_caught = pushed(content, i, j, ware, volume, pig)
                later, second_out, second_caught = pushed(half_way, i, j, ware, more)
                with self.subTest(number=number, turn=turn):
                    self.assertEqual(state_of(later), state_of(whole))
                    self.assertEqual(told(later), told(whole))
                    self.assertEqual(first_caught + second_caught, caught)
                    self.assertEqual(slow_amounts(first_out + second_out), slow_amounts(out))
                content = later

    def test_all_grows_alike_up_to_the_greatest_rooms(self):
        draw = random.Random(5)
        scale = 10 ** 6 // 7
        for number in range(60):
            fields, content, slow = self.started(draw, WARES, 0)
            great = Content(pipe_of(scaled_fields(fields, scale)), [(w, v * scale) for w, v in stretches(content)])
            for turn in range(6):
                i, j, ware, volume, pig = drawn_push(draw, WARES, fields[0])
                content, out, caught = pushed(content, i, j, ware, volume, pig)
                great, great_out, great_caught = pushed(great, i, j, ware, volume * scale, pig)
                with self.subTest(number=number, turn=turn):
                    self.assertEqual(great_caught, caught)
                    self.assertEqual(great_out, [(w, v * scale, times_scale(half, scale)) for w, v, half in out])
                    self.assertEqual(stretches(great), [(w, v * scale) for w, v in stretches(content)])
                    self.assertEqual(meetings(great), [(p * scale, s * scale) for p, s in meetings(content)])
                    self.assertEqual(pigs(great), [(p * scale, pig) for p, pig in pigs(content)])
                    self.assertEqual(told(great), scaled_view(told(content), scale))
                    self.assertEqual(told_out(great_out), scaled_view(told_out(out), scale))


class DrawnOuts(unittest.TestCase):
    def drawn_out(self, draw, length, halves):
        out = []
        for number in range(length):
            ware = draw.choice([ware for ware in WARES if not out or ware != out[-1][0]])
            half = as_pair(draw.choice(halves)) if out else (0, 1)
            out.append((ware, draw.randint(1, 4), half))
        return out

    def assert_as_slow(self, out):
        view = slow_view_of_out(out)
        self.assertEqual(told_out(out), view)
        self.assertEqual(mixed_of(view), slow_mixed(view))
        self.assertEqual(amounts_of(view), slow_amounts(out))

    def test_short_ones(self):
        draw = random.Random(6)
        halves = [Fraction(n, d) for n in range(0, 7) for d in (1, 2, 3)] + [Fraction(0)] * 6
        for number in range(400):
            with self.subTest(number=number):
                self.assert_as_slow(self.drawn_out(draw, draw.randint(1, 9), halves))

    def test_the_longest_ones(self):
        draw = random.Random(7)
        for halves in [[Fraction(0), Fraction(1, 2), Fraction(1, 3)], [Fraction(0), Fraction(1), Fraction(5, 2)]]:
            for number in range(4):
                self.assert_as_slow(self.drawn_out(draw, 200, halves))


if __name__ == "__main__":
    unittest.main()
