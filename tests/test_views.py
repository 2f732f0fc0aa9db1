import inspect
import unittest

from batchpipe.content import Content, meetings, pigs, stretches
from batchpipe.pipe import Pipe
from batchpipe.pushing import pushed
from batchpipe.views import amounts_of, mixed_of, told, told_out


def whole(number):
    return (number, 1)


def pure(start, stop, ware):
    return (whole(start), whole(stop), [(ware, whole(stop - start))])


def a_pipe(rooms=(20,), table=((10, 2),), thick=(), pig=(1, 2)):
    return Pipe(list(rooms), list(table), list(thick), [], pig)


def sent_through(pipe, start, pushes):
    content = Content(pipe, [(start, sum(pipe.rooms))])
    for push in pushes:
        content = pushed(content, *push)[0]
    return content


class ToldContents(unittest.TestCase):
    def test_the_arguments_have_their_names(self):
        for function, names in [
            (told, ["content"]), (told_out, ["out"]), (mixed_of, ["view"]), (amounts_of, ["view"]),
        ]:
            self.assertEqual(list(inspect.signature(function).parameters), names)

    def test_one_ware(self):
        self.assertEqual(told(Content(a_pipe(), [("oil", 20)])), [pure(0, 20, "oil")])

    def test_a_fill_is_not_mixed(self):
        content = Content(a_pipe(), [("oil", 3), ("gas", 7), ("oil", 10)])
        self.assertEqual(told(content), [pure(0, 3, "oil"), pure(3, 10, "gas"), pure(10, 20, "oil")])

    def test_a_mixed_one_around_a_meeting(self):
        content = sent_through(a_pipe(), "oil", [(0, 1, "gas", 10)])
        mixed = (whole(8), whole(12), [("gas", whole(2)), ("oil", whole(2))])
        self.assertEqual(told(content), [pure(0, 8, "gas"), mixed, pure(12, 20, "oil")])

    def test_shares_rise_by_ware_whatever_lies_first(self):
        content = sent_through(a_pipe(), "gas", [(0, 1, "oil", 10)])
        mixed = (whole(8), whole(12), [("gas", whole(2)), ("oil", whole(2))])
        self.assertEqual(told(content), [pure(0, 8, "oil"), mixed, pure(12, 20, "gas")])

    def test_places_are_fractions_in_lowest_terms(self):
        content = sent_through(a_pipe(), "oil", [(0, 1, "gas", 4)])
        self.assertEqual(told(content), [
            ((0, 1), (16, 5), [("gas", (16, 5))]),
            ((16, 5), (24, 5), [("gas", (4, 5)), ("oil", (4, 5))]),
            ((24, 5), (20, 1), [("oil", (76, 5))]),
        ])

    def test_the_half_goes_by_the_since(self):
        # The meeting at 10 began at 7: a half of 3 fifths.
        content = pushed(Content(a_pipe(), [("gas", 7), ("oil", 13)]), 0, 1, "gas", 3)[0]
        self.assertEqual(meetings(content), [(10, 7)])
        self.assertEqual(told(content)[1], ((47, 5), (53, 5), [("gas", (3, 5)), ("oil", (3, 5))]))

    def test_thickness(self):
        content = sent_through(a_pipe(thick=[("oil", "gas", 3)]), "oil", [(0, 1, "gas", 10)])
        self.assertEqual(told(content)[1], (whole(4), whole(16), [("gas", whole(6)), ("oil", whole(6))]))

    def test_a_thickness_of_nought(self):
        content = sent_through(a_pipe(thick=[("oil", "gas", 0)]), "oil", [(0, 1, "gas", 10)])
        self.assertEqual(told(content), [pure(0, 10, "gas"), pure(10, 20, "oil")])

    def test_an_empty_table(self):
        content = sent_through(a_pipe(table=[]), "oil", [(0, 1, "gas", 10)])
        self.assertEqual(told(content), [pure(0, 10, "gas"), pure(10, 20, "oil")])

    def test_a_pig_at_the_meeting(self):
        content = sent_through(a_pipe(), "oil", [(0, 1, "gas", 10, 7)])
        self.assertEqual(told(content)[1], (whole(9), whole(11), [("gas", whole(1)), ("oil", whole(1))]))
        wiped = sent_through(a_pipe(pig=(0, 3)), "oil", [(0, 1, "gas", 10, 7)])
        self.assertEqual(told(wiped), [pure(0, 10, "gas"), pure(10, 20, "oil")])

    def test_a_pig_elsewhere(self):
        content = sent_through(a_pipe(), "oil", [(0, 1, "gas", 5), (0, 1, "gas", 5, 7)])
        self.assertEqual(told(content)[1], (whole(8), whole(12), [("gas", whole(2)), ("oil", whole(2))]))

    def test_two_pigs_at_a_meeting_count_once(self):
        content = sent_through(a_pipe(rooms=[10, 10]), "oil", [(0, 2, "gas", 10, 7), (1, 2, "gas", 2, 8)])
        self.assertEqual((meetings(content), pigs(content)), ([(12, 0)], [(12, 8), (12, 7)]))
        self.assertEqual(told(content)[1], (whole(11), whole(13), [("gas", whole(1)), ("oil", whole(1))]))

    def test_a_pig_that_stays_at_a_node_counts_for_what_meets_there(self):
        content = sent_through(a_pipe(rooms=[10, 10]), "oil", [(0, 2, "gas", 10, 7)])
        self.assertEqual(told(content)[1][:2], (whole(9), whole(11)))
        later = pushed(content, 0, 1, "gas", 3)[0]
        self.assertEqual((meetings(later), pigs(later)), ([(10, 0)], [(10, 7)]))
        self.assertEqual(told(later)[1][:2], (whole(9), whole(11)))

    def test_not_beyond_the_head_and_the_end(self):
        steep = a_pipe(rooms=[20], table=[(1, 5)])
        content = sent_through(steep, "oil", [(0, 1, "gas", 2)])
        self.assertEqual(told(content), [
            (whole(0), whole(7), [("gas", whole(2)), ("oil", whole(5))]), pure(7, 20, "oil"),
        ])
        content = sent_through(steep, "oil", [(0, 1, "gas", 18)])
        self.assertEqual(told(content), [
            pure(0, 13, "gas"), (whole(13), whole(20), [("gas", whole(5)), ("oil", whole(2))]),
        ])
        content = sent_through(a_pipe(table=[(1, 10 ** 6)]), "oil", [(0, 1, "gas", 7)])
        self.assertEqual(told(content), [(whole(0), whole(20), [("gas", whole(7)), ("oil", whole(13))])])

    def test_amounts_are_the_volumes_of_the_stretches(self):
        pushes = [(0, 1, "gas", 4), (0, 1, "wax", 3), (0, 1, "oil", 2), (0, 1, "gas", 5)]
        content = sent_through(a_pipe(), "oil", pushes)
        view = told(content)
        self.assertEqual(amounts_of(view), [("gas", whole(9)), ("oil", whole(8)), ("wax", whole(3))])
        self.assertEqual(sum(volume for ware, volume in stretches(content)), 20)
        self.assertEqual((view[0][0], view[-1][1]), (whole(0), whole(20)))
        for near, far in zip(view, view[1:]):
            self.assertEqual(near[1], far[0])


class ToldOuts(unittest.TestCase):
    def test_one_ware(self):
        self.assertEqual(told_out([("oil", 7, (0, 1))]), [pure(0, 7, "oil")])
        self.assertEqual(told_out([("oil", 10 ** 7, (0, 1))]), [pure(0, 10 ** 7, "oil")])

    def test_halves_of_nought(self):
        out = [("oil", 7, (0, 1)), ("gas", 2, (0, 1)), ("oil", 1, (0, 1))]
        self.assertEqual(told_out(out), [pure(0, 7, "oil"), pure(7, 9, "gas"), pure(9, 10, "oil")])

    def test_one_mixed_one(self):
        self.assertEqual(told_out([("oil", 5, (0, 1)), ("gas", 5, (1, 2))]), [
            ((0, 1), (9, 2), [("oil", (9, 2))]),
            ((9, 2), (11, 2), [("gas", (1, 2)), ("oil", (1, 2))]),
            ((11, 2), (10, 1), [("gas", (9, 2))]),
        ])

    def test_the_half_is_the_later_ones(self):
        out = [("a", 5, (0, 1)), ("b", 10, (1, 1)), ("c", 5, (3, 1))]
        self.assertEqual([(start, stop) for start, stop, shares in told_out(out)], [
            (whole(0), whole(4)), (whole(4), whole(6)), (whole(6), whole(12)), (whole(12), whole(18)),
            (whole(18), whole(20)),
        ])

    def test_two_that_have_a_point_in_common_stay_two(self):
        out = [("a", 5, (0, 1)), ("b", 4, (1, 1)), ("c", 5, (3, 1))]
        self.assertEqual(told_out(out), [
            pure(0, 4, "a"),
            (whole(4), whole(6), [("a", whole(1)), ("b", whole(1))]),
            (whole(6), whole(12), [("b", whole(3)), ("c", whole(3))]),
            pure(12, 14, "c"),
        ])

    def test_two_that_overlap_become_one(self):
        out = [("a", 5, (0, 1)), ("b", 3, (1, 1)), ("c", 5, (3, 1))]
        self.assertEqual(told_out(out), [
            pure(0, 4, "a"), (whole(4), whole(11), [("a", whole(1)), ("b", whole(3)), ("c", whole(3))]),
            pure(11, 13, "c"),
        ])

    def test_two_that_overlap_by_a_little(self):
        out = [("a", 5, (0, 1)), ("b", 4, (1, 1)), ("c", 5, (301, 100))]
        self.assertEqual(len(told_out(out)), 3)
        self.assertEqual(told_out(out)[1][:2], (whole(4), (1201, 100)))
        out = [("a", 5, (0, 1)), ("b", 4, (1, 1)), ("c", 5, (299, 100))]
        self.assertEqual(len(told_out(out)), 5)
        self.assertEqual(told_out(out)[2], ((6, 1), (601, 100), [("b", (1, 100))]))

    def test_one_ware_on_both_sides_has_one_share(self):
        out = [("a", 5, (0, 1)), ("b", 2, (2, 1)), ("a", 5, (2, 1))]
        self.assertEqual(told_out(out), [
            pure(0, 3, "a"), (whole(3), whole(9), [("a", whole(4)), ("b", whole(2))]), pure(9, 12, "a"),
        ])

    def test_two_that_a_third_one_joins(self):
        # From 4 to 6 and from 13 to 15, and one around 11 from 5 to 17.
        out = [("a", 5, (0, 1)), ("b", 6, (1, 1)), ("c", 3, (6, 1)), ("d", 6, (1, 1))]
        self.assertEqual(told_out(out), [
            pure(0, 4, "a"),
            (whole(4), whole(17), [("a", whole(1)), ("b", whole(6)), ("c", whole(3)), ("d", whole(3))]),
            pure(17, 20, "d"),
        ])

    def test_a_far_one_that_reaches_ahead_of_nearer_ones(self):
        # The last one reaches from 1 on; the two ahead of it lie within.
        out = [("a", 4, (0, 1)), ("b", 3, (1, 1)), ("c", 3, (1, 2)), ("d", 12, (9, 1))]
        self.assertEqual(told_out(out), [
            pure(0, 1, "a"),
            (whole(1), whole(19), [("a", whole(3)), ("b", whole(3)), ("c", whole(3)), ("d", whole(9))]),
            pure(19, 22, "d"),
        ])

    def test_a_near_one_that_reaches_beyond_farther_ones(self):
        out = [("a", 12, (0, 1)), ("b", 3, (9, 1)), ("c", 3, (1, 2)), ("d", 4, (1, 1))]
        self.assertEqual(told_out(out), [
            pure(0, 3, "a"),
            (whole(3), whole(21), [("a", whole(9)), ("b", whole(3)), ("c", whole(3)), ("d", whole(3))]),
            pure(21, 22, "d"),
        ])

    def test_a_half_of_nought_within_a_mixed_one(self):
        for halves in [((4, 1), (0, 1)), ((0, 1), (4, 1))]:
            view = told_out([("a", 6, (0, 1)), ("b", 2, halves[0]), ("c", 6, halves[1])])
            self.assertEqual(len(view), 3)
            amounts = [4, 2, 2] if halves[0] == (4, 1) else [2, 2, 4]
            self.assertEqual(view[1][2], [(ware, whole(amount)) for ware, amount in zip("abc", amounts)])

    def test_a_half_of_nought_at_the_edge_of_a_mixed_one(self):
        out = [("a", 6, (0, 1)), ("b", 2, (2, 1)), ("c", 6, (0, 1))]
        mixed = (whole(4), whole(8), [("a", whole(2)), ("b", whole(2))])
        self.assertEqual(told_out(out), [pure(0, 4, "a"), mixed, pure(8, 14, "c")])
        out = [("a", 6, (0, 1)), ("b", 2, (0, 1)), ("c", 6, (2, 1))]
        mixed = (whole(6), whole(10), [("b", whole(2)), ("c", whole(2))])
        self.assertEqual(told_out(out), [pure(0, 6, "a"), mixed, pure(10, 14, "c")])

    def test_a_half_of_nought_between_two_mixed_ones(self):
        out = [("a", 3, (0, 1)), ("b", 1, (1, 1)), ("c", 1, (0, 1)), ("d", 3, (1, 1))]
        self.assertEqual(told_out(out), [
            pure(0, 2, "a"), (whole(2), whole(4), [("a", whole(1)), ("b", whole(1))]),
            (whole(4), whole(6), [("c", whole(1)), ("d", whole(1))]), pure(6, 8, "d"),
        ])

    def test_a_mixed_one_up_to_the_next_meeting_is_of_two_wares_only(self):
        out = [("a", 3, (0, 1)), ("b", 1, (1, 1)), ("c", 4, (0, 1))]
        self.assertEqual(told_out(out)[1][2], [("a", whole(1)), ("b", whole(1))])

    def test_not_beyond_the_ends(self):
        self.assertEqual(told_out([("a", 2, (0, 1)), ("b", 9, (5, 1))]), [
            (whole(0), whole(7), [("a", whole(2)), ("b", whole(5))]), pure(7, 11, "b"),
        ])
        self.assertEqual(told_out([("a", 9, (0, 1)), ("b", 2, (5, 1))]), [
            pure(0, 4, "a"), (whole(4), whole(11), [("a", whole(5)), ("b", whole(2))]),
        ])
        self.assertEqual(told_out([("a", 2, (0, 1)), ("b", 3, (2, 1)), ("c", 1, (1, 1))]), [
            (whole(0), whole(4), [("a", whole(2)), ("b", whole(2))]),
            (whole(4), whole(6), [("b", whole(1)), ("c", whole(1))]),
        ])
        self.assertEqual(told_out([("a", 1, (0, 1)), ("b", 1, (10 ** 40, 3)), ("c", 1, (10 ** 40, 7))]), [
            (whole(0), whole(3), [("a", whole(1)), ("b", whole(1)), ("c", whole(1))]),
        ])

    def test_just_to_the_ends(self):
        self.assertEqual(told_out([("a", 2, (0, 1)), ("b", 2, (2, 1))]), [
            (whole(0), whole(4), [("a", whole(2)), ("b", whole(2))]),
        ])

    def test_the_order_is_that_in_which_it_came_out(self):
        later, out, caught = pushed(Content(a_pipe(), [("oil", 4), ("gas", 16)]), 0, 1, "wax", 19)
        self.assertEqual(out, [("gas", 16, (0, 1)), ("oil", 3, (2, 1))])
        self.assertEqual(told_out(out), [
            pure(0, 14, "gas"), (whole(14), whole(18), [("gas", whole(2)), ("oil", whole(2))]), pure(18, 19, "oil"),
        ])

    def test_the_longest_list_of_the_greatest_volumes(self):
        out = [("ab"[k % 2], 10 ** 7, (0, 1) if k == 0 else (k, 211)) for k in range(200)]
        view = told_out(out)
        self.assertEqual(len(view), 399)
        self.assertEqual(amounts_of(view), [("a", whole(10 ** 9)), ("b", whole(10 ** 9))])
        self.assertEqual(mixed_of(view), (2 * sum(range(200)), 211))
        joined = told_out([(ware, volume, (half[0] * 10 ** 7, half[1])) for ware, volume, half in out])
        self.assertEqual(amounts_of(joined), [("a", whole(10 ** 9)), ("b", whole(10 ** 9))])

    def test_kinds(self):
        view = told_out([("a", 2, (0, 1)), ("b", 9, (5, 3))])
        self.assertIs(type(view), list)
        for triple in view:
            self.assertIs(type(triple), tuple)
            self.assertEqual([type(part) for part in triple], [tuple, tuple, list])
            for pair in triple[2]:
                self.assertEqual([type(pair), type(pair[0]), type(pair[1])], [tuple, str, tuple])
        self.assertIs(type(mixed_of(view)), tuple)
        self.assertIs(type(amounts_of(view)), list)
        for pair in amounts_of(view):
            self.assertEqual([type(pair), type(pair[0]), type(pair[1])], [tuple, str, tuple])


class Sums(unittest.TestCase):
    def test_nothing_mixed(self):
        self.assertEqual(mixed_of([pure(0, 7, "oil"), pure(7, 9, "gas")]), (0, 1))

    def test_the_lengths_of_the_mixed_ones(self):
        view = told_out([("a", 5, (0, 1)), ("b", 6, (1, 2)), ("c", 5, (5, 3))])
        self.assertEqual(len(view), 5)
        self.assertEqual(mixed_of(view), (13, 3))

    def test_two_that_meet_in_a_point_count_both(self):
        self.assertEqual(mixed_of(told_out([("a", 5, (0, 1)), ("b", 4, (1, 1)), ("c", 5, (3, 1))])), (8, 1))

    def test_overlapping_ones_count_once(self):
        self.assertEqual(mixed_of(told_out([("a", 5, (0, 1)), ("b", 3, (1, 1)), ("c", 5, (3, 1))])), (7, 1))

    def test_amounts_rise_by_ware(self):
        view = told_out([("wax", 5, (0, 1)), ("b", 6, (1, 2)), ("a", 5, (5, 3)), ("b", 2, (0, 1)), ("ab", 3, (1, 1))])
        self.assertEqual(amounts_of(view), [("a", whole(5)), ("ab", whole(3)), ("b", whole(8)), ("wax", whole(5))])

    def test_amounts_of_a_part_of_a_view(self):
        view = told_out([("a", 5, (0, 1)), ("b", 5, (1, 3))])
        self.assertEqual(amounts_of(view[:2]), [("a", (5, 1)), ("b", (1, 3))])
        self.assertEqual(amounts_of(view[1:]), [("a", (1, 3)), ("b", (5, 1))])


if __name__ == "__main__":
    unittest.main()
