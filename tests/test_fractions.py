import copy
import unittest
from fractions import Fraction
from math import gcd

from batchpipe.fractions import below, less_by, made, sum_of, times

# Unlike lengths and many common factors; more figures than Python writes down unasked.
HUGE = 3 ** 9000 * 7 ** 40
HUGER = 3 ** 8000 * 11 ** 1500

NUMBERS = [-HUGE, -(10 ** 30), -360, -12, -7, -2, -1, 0, 1, 2, 3, 7, 12, 360, 10 ** 30, HUGE, HUGER]
PARTS = [1, 2, 3, 4, 6, 7, 12, 360, 10 ** 30, HUGER]

# Pairs as they may be handed in: parts 1 or more, not all in lowest terms.
HANDED = [
    (0, 1), (0, 6), (1, 1), (4, 4), (-1, 1), (-6, 6), (1, 2), (2, 4), (50, 100), (-1, 2), (-2, 4), (1, 3), (-7, 3),
    (21, 9), (10, 4), (5, 6), (7, 6), (12, 1), (10 ** 40, 10 ** 39), (10 ** 40 + 1, 10 ** 40), (HUGE, HUGER),
    (-HUGE, HUGER), (HUGE * 6, HUGER * 6), (HUGE + 1, HUGER),
]


def worth(pair):
    return Fraction(pair[0], pair[1])


class FractionCase(unittest.TestCase):
    def assert_fraction(self, answer, wanted):
        # Compared without assertEqual: its message would have to write huge numbers down.
        self.assertIs(type(answer), tuple)
        self.assertEqual(len(answer), 2)
        self.assertIs(type(answer[0]), int)
        self.assertIs(type(answer[1]), int)
        self.assertTrue(answer[1] >= 1)
        self.assertTrue(gcd(answer[0], answer[1]) == 1)
        self.assertTrue(worth(answer) == wanted)


class Made(FractionCase):
    def test_ordinary_ones(self):
        self.assertEqual(made(1, 2), (1, 2))
        self.assertEqual(made(6, 4), (3, 2))
        self.assertEqual(made(5, 1), (5, 1))
        self.assertEqual(made(12, 4), (3, 1))
        self.assertEqual(made(4, 12), (1, 3))
        self.assertEqual(made(7, 7), (1, 1))

    def test_numbers_below_nought(self):
        self.assertEqual(made(-6, 4), (-3, 2))
        self.assertEqual(made(-1, 3), (-1, 3))
        self.assertEqual(made(-7, 7), (-1, 1))

    def test_parts_below_nought(self):
        self.assertEqual(made(6, -4), (-3, 2))
        self.assertEqual(made(-6, -4), (3, 2))
        self.assertEqual(made(1, -1), (-1, 1))
        self.assertEqual(made(-5, -7), (5, 7))

    def test_nought_has_one_part(self):
        for parts in [1, 2, 9, -1, -9, HUGE, -HUGE]:
            self.assertEqual(made(0, parts), (0, 1))

    def test_all_small_ones(self):
        for number in range(-40, 41):
            for parts in range(-40, 41):
                if parts != 0:
                    self.assert_fraction(made(number, parts), Fraction(number, parts))

    def test_numbers_of_any_size(self):
        for number in NUMBERS:
            for parts in PARTS:
                self.assert_fraction(made(number, parts), Fraction(number, parts))
                self.assert_fraction(made(number, -parts), Fraction(-number, parts))


class Reckoning(FractionCase):
    def test_sums(self):
        self.assertEqual(sum_of((1, 2), (1, 3)), (5, 6))
        self.assertEqual(sum_of((1, 6), (1, 3)), (1, 2))
        self.assertEqual(sum_of((1, 2), (-1, 2)), (0, 1))
        self.assertEqual(sum_of((2, 4), (3, 6)), (1, 1))
        self.assertEqual(sum_of((0, 5), (4, 6)), (2, 3))

    def test_differences(self):
        self.assertEqual(less_by((1, 2), (1, 3)), (1, 6))
        self.assertEqual(less_by((1, 3), (1, 2)), (-1, 6))
        self.assertEqual(less_by((2, 4), (1, 2)), (0, 1))
        self.assertEqual(less_by((0, 3), (2, 4)), (-1, 2))
        self.assertEqual(less_by((1, 2), (-1, 2)), (1, 1))

    def test_products(self):
        self.assertEqual(times((2, 3), (3, 4)), (1, 2))
        self.assertEqual(times((-2, 3), (3, 2)), (-1, 1))
        self.assertEqual(times((-1, 2), (-1, 3)), (1, 6))
        self.assertEqual(times((0, 7), (5, 3)), (0, 1))
        self.assertEqual(times((4, 2), (6, 4)), (3, 1))

    def test_each_with_each(self):
        for one in HANDED:
            for other in HANDED:
                self.assert_fraction(sum_of(one, other), worth(one) + worth(other))
                self.assert_fraction(less_by(one, other), worth(one) - worth(other))
                self.assert_fraction(times(one, other), worth(one) * worth(other))

    def test_what_is_handed_in_stays(self):
        for reckon in [sum_of, less_by, times, below]:
            one, other = (2, 4), (6, 3)
            before = copy.deepcopy((one, other))
            reckon(one, other)
            self.assertEqual((one, other), before)

    def test_what_was_told_may_be_handed_in(self):
        self.assertEqual(times(sum_of(made(1, 2), made(1, 3)), less_by(made(2, 1), made(4, 5))), (1, 1))


class Below(FractionCase):
    def test_ordinary_ones(self):
        self.assertIs(below((1, 3), (1, 2)), True)
        self.assertIs(below((1, 2), (1, 3)), False)
        self.assertIs(below((-1, 2), (-1, 3)), True)
        self.assertIs(below((-1, 3), (-1, 2)), False)
        self.assertIs(below((-1, 2), (0, 1)), True)
        self.assertIs(below((0, 1), (-1, 2)), False)
        self.assertIs(below((2, 3), (3, 4)), True)

    def test_one_and_itself(self):
        for one in HANDED:
            self.assertIs(below(one, one), False)

    def test_two_of_one_worth_written_unlike(self):
        for one, other in [((1, 2), (2, 4)), ((0, 1), (0, 9)), ((-3, 3), (-1, 1)), ((HUGE, HUGER), (HUGE * 2, HUGER * 2))]:
            self.assertIs(below(one, other), False)
            self.assertIs(below(other, one), False)

    def test_both_ways_about(self):
        for one in HANDED:
            for other in HANDED:
                self.assertIs(below(one, other), worth(one) < worth(other))

    def test_ones_that_lie_very_near(self):
        self.assertIs(below((HUGE, HUGER), (HUGE + 1, HUGER)), True)
        self.assertIs(below((HUGE + 1, HUGER), (HUGE, HUGER)), False)


if __name__ == "__main__":
    unittest.main()
