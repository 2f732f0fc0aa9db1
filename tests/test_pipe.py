import copy
import unittest
from fractions import Fraction

from batchpipe.pipe import Pipe, are_apart, half_at, place_of, thick_of

ROOMS = [10, 1, 25, 1000000, 7, 300]
TABLE = [(10, 4), (13, 5), (20, 5), (100, 50)]
THICK = [("oil", "gas", 3), ("tar", "oil", 0), ("gas", "wax", 20)]
APART = [("gas", "milk"), ("tar", "gas")]


def a_pipe(rooms=ROOMS, table=TABLE, thick=THICK, apart=APART, pig=(1, 2)):
    return Pipe(list(rooms), list(table), list(thick), list(apart), pig)


def fields_of(pipe):
    return copy.deepcopy((pipe.rooms, pipe.table, pipe.thick, pipe.apart, pipe.pig))


class Fields(unittest.TestCase):
    def test_the_fields_are_what_was_handed_in(self):
        self.assertEqual(fields_of(a_pipe()), (ROOMS, TABLE, THICK, APART, (1, 2)))

    def test_a_pig_is_not_put_in_lowest_terms(self):
        self.assertEqual(a_pipe(pig=(50, 100)).pig, (50, 100))
        self.assertEqual(a_pipe(pig=(0, 7)).pig, (0, 7))

    def test_the_arguments_have_their_names(self):
        pipe = Pipe(rooms=[5], table=[], thick=[], apart=[], pig=(1, 1))
        self.assertEqual(fields_of(pipe), ([5], [], [], [], (1, 1)))

    def test_the_fields_are_lists(self):
        pipe = a_pipe()
        for field in [pipe.rooms, pipe.table, pipe.thick, pipe.apart]:
            self.assertIs(type(field), list)

    def test_lists_changed_later_change_nothing_in_it(self):
        handed = [list(ROOMS), list(TABLE), list(THICK), list(APART)]
        pipe = Pipe(*handed, (1, 2))
        handed[0][0] = 99
        handed[1].clear()
        handed[2].append(("wax", "oil", 9))
        handed[3].pop()
        self.assertEqual(fields_of(pipe), (ROOMS, TABLE, THICK, APART, (1, 2)))
        self.assertEqual(place_of(pipe, 1), 10)
        self.assertEqual(half_at(pipe, 10), (4, 1))
        self.assertEqual(thick_of(pipe, "wax", "oil"), 1)
        self.assertIs(are_apart(pipe, "tar", "gas"), True)

    def test_its_lists_changed_later_change_nothing_that_was_handed_in(self):
        handed = [list(ROOMS), list(TABLE), list(THICK), list(APART)]
        pipe, other = Pipe(*handed, (1, 2)), Pipe(*handed, (1, 2))
        for field in [pipe.rooms, pipe.table, pipe.thick, pipe.apart]:
            field.clear()
        self.assertEqual(handed, [ROOMS, TABLE, THICK, APART])
        self.assertEqual(fields_of(other), (ROOMS, TABLE, THICK, APART, (1, 2)))

    def test_one_empty_list_handed_in_thrice_is_three_lists(self):
        empty = []
        pipe = Pipe([5], empty, empty, empty, (1, 1))
        pipe.table.append((1, 1))
        self.assertEqual((pipe.thick, pipe.apart, empty), ([], [], []))

    def test_another_pipes_fields_may_be_handed_in(self):
        pipe = a_pipe()
        other = Pipe(pipe.rooms, pipe.table, pipe.thick, pipe.apart, pipe.pig)
        pipe.rooms.append(3)
        self.assertEqual(fields_of(other), (ROOMS, TABLE, THICK, APART, (1, 2)))

    def test_nothing_is_refused_somewhat_beyond_the_bounds(self):
        pipe = Pipe([2 * 10 ** 6] * 8, [(k, k) for k in range(1, 12)], [("oil", "gas", 25)], [], (1, 200))
        self.assertEqual(place_of(pipe, 8), 16 * 10 ** 6)
        self.assertEqual(half_at(pipe, 11), (11, 1))
        self.assertEqual(thick_of(pipe, "gas", "oil"), 25)

    def test_asking_changes_nothing(self):
        pipe = a_pipe()
        before = fields_of(pipe)
        place_of(pipe, 3)
        half_at(pipe, 11)
        thick_of(pipe, "oil", "gas")
        are_apart(pipe, "milk", "gas")
        self.assertEqual(fields_of(pipe), before)


class Places(unittest.TestCase):
    def test_one_segment(self):
        pipe = a_pipe(rooms=[42])
        self.assertEqual(place_of(pipe, 0), 0)
        self.assertEqual(place_of(pipe, 1), 42)

    def test_six_segments(self):
        pipe = a_pipe()
        places = [place_of(pipe, node) for node in range(7)]
        self.assertEqual(places, [0, 10, 11, 36, 1000036, 1000043, 1000343])

    def test_the_least_and_the_greatest_rooms(self):
        self.assertEqual(place_of(a_pipe(rooms=[1]), 1), 1)
        self.assertEqual(place_of(a_pipe(rooms=[10 ** 6] * 6), 6), 6 * 10 ** 6)


class Halves(unittest.TestCase):
    def test_nought_at_nought(self):
        self.assertEqual(half_at(a_pipe(), 0), (0, 1))
        self.assertEqual(half_at(a_pipe(table=[(1, 10 ** 6)]), 0), (0, 1))

    def test_the_told_half_at_each_told_distance(self):
        pipe = a_pipe()
        for distance, half in TABLE:
            self.assertEqual(half_at(pipe, distance), (half, 1))

    def test_between_nought_and_the_first_told_one(self):
        pipe = a_pipe()
        self.assertEqual(half_at(pipe, 5), (2, 1))
        self.assertEqual(half_at(pipe, 1), (2, 5))
        self.assertEqual(half_at(pipe, 9), (18, 5))

    def test_between_two_told_ones(self):
        pipe = a_pipe()
        self.assertEqual(half_at(pipe, 11), (13, 3))
        self.assertEqual(half_at(pipe, 12), (14, 3))
        self.assertEqual(half_at(pipe, 17), (5, 1))
        self.assertEqual(half_at(pipe, 21), (89, 16))
        self.assertEqual(half_at(pipe, 60), (55, 2))

    def test_beyond_the_last_told_one(self):
        pipe = a_pipe()
        for distance in [101, 102, 500, 6 * 10 ** 6, 10 ** 40]:
            self.assertEqual(half_at(pipe, distance), (50, 1))

    def test_an_empty_table(self):
        for distance in [0, 1, 77, 6 * 10 ** 6]:
            self.assertEqual(half_at(a_pipe(table=[]), distance), (0, 1))

    def test_halves_of_nought(self):
        pipe = a_pipe(table=[(4, 0), (8, 6)])
        answers = [half_at(pipe, distance) for distance in [0, 2, 4, 5, 6, 8, 9]]
        self.assertEqual(answers, [(0, 1), (0, 1), (0, 1), (3, 2), (3, 1), (6, 1), (6, 1)])

    def test_one_row_at_the_least_distance(self):
        pipe = a_pipe(table=[(1, 3)])
        self.assertEqual([half_at(pipe, distance) for distance in [0, 1, 2]], [(0, 1), (3, 1), (3, 1)])

    def test_eight_rows_against_the_straight_line(self):
        table = [(1, 1), (2, 1), (5, 3), (12, 4), (30, 29), (31, 40), (50, 40), (10 ** 6, 10 ** 6)]
        pipe = a_pipe(table=table)
        for (near, low), (far, high) in zip([(0, 0)] + table, table):
            for distance in range(near, min(far, near + 60) + 1):
                wanted = low + Fraction((high - low) * (distance - near), far - near)
                answer = half_at(pipe, distance)
                self.assertIs(type(answer), tuple)
                self.assertEqual(answer, (wanted.numerator, wanted.denominator))


class Thickness(unittest.TestCase):
    def test_told_in_either_order(self):
        pipe = a_pipe()
        for one, other, k in THICK:
            self.assertEqual(thick_of(pipe, one, other), k)
            self.assertEqual(thick_of(pipe, other, one), k)

    def test_nought_where_nought_is_told(self):
        self.assertEqual(thick_of(a_pipe(), "tar", "oil"), 0)
        self.assertEqual(thick_of(a_pipe(), "oil", "tar"), 0)

    def test_one_where_none_is_told(self):
        self.assertEqual(thick_of(a_pipe(), "wax", "oil"), 1)
        self.assertEqual(thick_of(a_pipe(), "oil", "wax"), 1)
        self.assertEqual(thick_of(a_pipe(), "milk", "a"), 1)
        self.assertEqual(thick_of(a_pipe(thick=[]), "oil", "gas"), 1)

    def test_nought_of_a_ware_and_itself(self):
        for ware in ["oil", "gas", "milk", "a", "abcdefgh"]:
            self.assertEqual(thick_of(a_pipe(), ware, ware), 0)
            self.assertEqual(thick_of(a_pipe(thick=[]), ware, ware), 0)

    def test_wares_whose_letters_are_the_same_when_joined(self):
        pipe = a_pipe(thick=[("ab", "c", 5)])
        self.assertEqual(thick_of(pipe, "a", "bc"), 1)
        self.assertEqual(thick_of(pipe, "c", "ab"), 5)

    def test_it_is_a_number(self):
        for one, other in [("oil", "gas"), ("oil", "oil"), ("wax", "oil")]:
            self.assertIs(type(thick_of(a_pipe(), one, other)), int)


class Apart(unittest.TestCase):
    def test_told_in_either_order(self):
        pipe = a_pipe()
        for one, other in APART:
            self.assertIs(are_apart(pipe, one, other), True)
            self.assertIs(are_apart(pipe, other, one), True)

    def test_not_where_nothing_is_told(self):
        self.assertIs(are_apart(a_pipe(), "tar", "milk"), False)
        self.assertIs(are_apart(a_pipe(), "milk", "tar"), False)
        self.assertIs(are_apart(a_pipe(), "oil", "gas"), False)
        self.assertIs(are_apart(a_pipe(apart=[]), "gas", "milk"), False)

    def test_not_a_ware_and_itself(self):
        for ware in ["gas", "milk", "oil"]:
            self.assertIs(are_apart(a_pipe(), ware, ware), False)


if __name__ == "__main__":
    unittest.main()
