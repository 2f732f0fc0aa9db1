import inspect
import unittest

from batchpipe.content import Content, meetings, pigs, stretches
from batchpipe.errors import NoWay, Touch
from batchpipe.pipe import Pipe
from batchpipe.pushing import pushed

NOUGHT = (0, 1)


def a_pipe(rooms=(4, 6, 5), pig=(1, 2), apart=()):
    # Nodes at the places 0, 4, 10, 15; a half is a fifth of the distance, up to 2.
    return Pipe(list(rooms), [(10, 2)], [("oil", "gas", 3), ("tar", "oil", 0)], list(apart), pig)


def filled(*fill):
    return Content(a_pipe(), list(fill))


def oil_then_gas():
    """Oil up to place 10, gas behind it; they have gone together from place 7 on."""
    return pushed(filled(("oil", 7), ("gas", 8)), 0, 3, "oil", 3)[0]


def meeting_at_node_one():
    """Oil up to place 4, gas behind it; they have gone together from the head on, with pig number 1 between."""
    return pushed(filled(("gas", 15)), 0, 3, "oil", 4, 1)[0]


class PushCase(unittest.TestCase):
    def assert_push(self, content, push, lies=None, meet=None, out=None, ride=None, caught=None):
        before = (stretches(content), meetings(content), pigs(content))
        later, went, found = pushed(content, *push)
        for wanted, answer in [
            (lies, stretches(later)), (meet, meetings(later)), (out, went), (ride, pigs(later)), (caught, found),
        ]:
            if wanted is not None:
                self.assertEqual(answer, wanted)
        self.assertEqual((stretches(content), meetings(content), pigs(content)), before)
        return later


class Interface(PushCase):
    def test_the_arguments_have_their_names(self):
        names = ["content", "i", "j", "ware", "volume", "pig"]
        self.assertEqual(list(inspect.signature(pushed).parameters), names)
        self.assertIsNone(inspect.signature(pushed).parameters["pig"].default)
        answer = pushed(content=filled(("gas", 15)), i=0, j=3, ware="oil", volume=3, pig=4)
        self.assertEqual(pigs(answer[0]), [(3, 4)])

    def test_kinds(self):
        answer = pushed(filled(("oil", 7), ("gas", 8)), 0, 3, "wax", 16, 5)
        self.assertIs(type(answer), tuple)
        later, out, caught = answer
        self.assertIs(type(later), Content)
        self.assertIs(type(out), list)
        self.assertIs(type(caught), list)
        for triple in out:
            self.assertIs(type(triple), tuple)
            self.assertIs(type(triple[2]), tuple)
        for answer in [stretches(later), meetings(later), pigs(later)]:
            self.assertIs(type(answer), list)


class FromTheHeadToTheEnd(PushCase):
    def setUp(self):
        self.content = filled(("oil", 7), ("gas", 8))

    def test_less_than_the_last_stretch(self):
        self.assert_push(
            self.content, (0, 3, "wax", 3), [("wax", 3), ("oil", 7), ("gas", 5)], [(3, 0), (10, 7)],
            [("gas", 3, NOUGHT)], [], [],
        )

    def test_just_the_last_stretch(self):
        self.assert_push(
            self.content, (0, 3, "wax", 8), [("wax", 8), ("oil", 7)], [(8, 0)], [("gas", 8, NOUGHT)],
        )

    def test_more_than_the_last_stretch(self):
        self.assert_push(
            self.content, (0, 3, "wax", 9), [("wax", 9), ("oil", 6)], [(9, 0)],
            [("gas", 8, NOUGHT), ("oil", 1, (24, 5))],
        )

    def test_all_but_one_unit(self):
        self.assert_push(
            self.content, (0, 3, "wax", 14), [("wax", 14), ("oil", 1)], [(14, 0)],
            [("gas", 8, NOUGHT), ("oil", 6, (24, 5))],
        )

    def test_just_what_lies_there(self):
        self.assert_push(
            self.content, (0, 3, "wax", 15), [("wax", 15)], [], [("gas", 8, NOUGHT), ("oil", 7, (24, 5))],
        )

    def test_more_than_lies_there(self):
        self.assert_push(
            self.content, (0, 3, "wax", 16), [("wax", 15)], [],
            [("gas", 8, NOUGHT), ("oil", 7, (24, 5)), ("wax", 1, (2, 1))],
        )
        self.assert_push(
            self.content, (0, 3, "wax", 10 ** 7), [("wax", 15)], [],
            [("gas", 8, NOUGHT), ("oil", 7, (24, 5)), ("wax", 10 ** 7 - 15, (2, 1))],
        )

    def test_the_ware_that_lies_at_the_head(self):
        self.assert_push(
            self.content, (0, 3, "oil", 3), [("oil", 10), ("gas", 5)], [(10, 7)], [("gas", 3, NOUGHT)],
        )
        self.assert_push(
            self.content, (0, 3, "oil", 9), [("oil", 15)], [], [("gas", 8, NOUGHT), ("oil", 1, (24, 5))],
        )

    def test_the_only_ware(self):
        self.assert_push(filled(("gas", 15)), (0, 3, "gas", 99), [("gas", 15)], [], [("gas", 99, NOUGHT)])

    def test_wares_with_a_thickness_of_nought(self):
        self.assert_push(
            filled(("oil", 15)), (0, 3, "tar", 16), [("tar", 15)], [], [("oil", 15, NOUGHT), ("tar", 1, NOUGHT)],
        )

    def test_since_is_kept_over_many_pushes(self):
        content = filled(("gas", 15))
        for ware, volume in [("oil", 2), ("wax", 1), ("oil", 3), ("gas", 2)]:
            content = pushed(content, 0, 3, ware, volume)[0]
        self.assertEqual(stretches(content), [("gas", 2), ("oil", 3), ("wax", 1), ("oil", 2), ("gas", 7)])
        self.assertEqual(meetings(content), [(2, 0), (5, 0), (6, 0), (8, 0)])


class FromANodeWithin(PushCase):
    def test_a_ware_that_is_as_both(self):
        content = filled(("oil", 7), ("gas", 8))
        self.assert_push(content, (1, 3, "oil", 2), [("oil", 9), ("gas", 6)], [(9, 7)], [("gas", 2, NOUGHT)])

    def test_a_ware_that_is_as_neither_of_two_alike(self):
        content = filled(("oil", 7), ("gas", 8))
        self.assert_push(
            content, (1, 3, "wax", 2), [("oil", 4), ("wax", 2), ("oil", 3), ("gas", 6)], [(4, 4), (6, 4), (9, 7)],
            [("gas", 2, NOUGHT)],
        )

    def test_a_ware_that_is_as_neither_of_two_unlike(self):
        content = meeting_at_node_one()
        self.assertEqual(meetings(content), [(4, 0)])
        self.assert_push(
            content, (1, 3, "wax", 2), [("oil", 4), ("wax", 2), ("gas", 9)], [(4, 4), (6, 4)], [("gas", 2, NOUGHT)],
        )

    def test_a_ware_that_is_as_the_one_behind(self):
        self.assert_push(
            meeting_at_node_one(), (1, 3, "gas", 2), [("oil", 4), ("gas", 11)], [(4, 0)], [("gas", 2, NOUGHT)],
        )
        self.assert_push(
            meeting_at_node_one(), (1, 3, "gas", 50), [("oil", 4), ("gas", 11)], [(4, 0)], [("gas", 50, NOUGHT)],
        )

    def test_a_ware_that_is_as_the_one_ahead(self):
        self.assert_push(
            meeting_at_node_one(), (1, 3, "oil", 2), [("oil", 6), ("gas", 9)], [(6, 0)], [("gas", 2, NOUGHT)],
        )
        self.assert_push(meeting_at_node_one(), (1, 3, "oil", 11), [("oil", 15)], [], [("gas", 11, NOUGHT)])

    def test_a_node_at_the_first_place_is_not_the_head(self):
        content = pushed(Content(a_pipe(rooms=[1, 4]), [("gas", 5)]), 0, 2, "oil", 1)[0]
        self.assertEqual(meetings(content), [(1, 0)])
        self.assert_push(content, (1, 2, "oil", 2), [("oil", 3), ("gas", 2)], [(3, 0)])
        self.assert_push(content, (1, 2, "gas", 2), [("oil", 1), ("gas", 4)], [(1, 0)])
        self.assert_push(content, (1, 2, "wax", 2), [("oil", 1), ("wax", 2), ("gas", 2)], [(1, 1), (3, 1)])

    def test_the_half_goes_by_the_since_that_the_meeting_has_in_the_row(self):
        # At place 15, since the head: 2 times 3, and a pig that halves it.
        self.assert_push(
            meeting_at_node_one(), (1, 3, "oil", 12), [("oil", 15)], [], [("gas", 11, NOUGHT), ("oil", 1, (3, 1))],
        )
        content = pushed(filled(("gas", 15)), 0, 3, "oil", 4)[0]
        self.assert_push(content, (1, 2, "oil", 7), None, None, [("gas", 6, NOUGHT), ("oil", 1, (6, 1))])
        self.assert_push(content, (1, 2, "wax", 7), None, None, [("gas", 6, NOUGHT), ("wax", 1, (6, 5))])

    def test_what_lies_ahead_of_the_node_stays(self):
        content = filled(("a", 1), ("b", 1), ("c", 2), ("d", 11))
        self.assert_push(
            content, (1, 3, "e", 1), [("a", 1), ("b", 1), ("c", 2), ("e", 1), ("d", 10)],
            [(1, 1), (2, 2), (4, 4), (5, 4)],
        )


class ToANodeWithin(PushCase):
    def test_the_ware_behind_the_node_lay_ahead_of_it_too(self):
        content = filled(("gas", 15))
        self.assert_push(content, (0, 2, "oil", 3), [("oil", 3), ("gas", 12)], [(3, 0)], [("gas", 3, NOUGHT)])
        self.assert_push(content, (0, 2, "oil", 9), [("oil", 9), ("gas", 6)], [(9, 0)], [("gas", 9, NOUGHT)])
        self.assert_push(content, (0, 2, "oil", 10), [("oil", 10), ("gas", 5)], [(10, 10)], [("gas", 10, NOUGHT)])
        self.assert_push(
            content, (0, 2, "oil", 11), [("oil", 10), ("gas", 5)], [(10, 10)],
            [("gas", 10, NOUGHT), ("oil", 1, (6, 1))],
        )

    def test_since_stays_where_not_all_of_the_last_stretch_came_out(self):
        content = oil_then_gas()
        self.assertEqual(meetings(content), [(10, 7)])
        self.assert_push(
            content, (0, 2, "wax", 4), [("wax", 4), ("oil", 6), ("gas", 5)], [(4, 0), (10, 7)], [("oil", 4, NOUGHT)],
        )
        self.assert_push(
            content, (0, 2, "wax", 9), [("wax", 9), ("oil", 1), ("gas", 5)], [(9, 0), (10, 7)], [("oil", 9, NOUGHT)],
        )

    def test_since_is_the_node_where_all_of_it_came_out(self):
        self.assert_push(
            oil_then_gas(), (0, 2, "wax", 10), [("wax", 10), ("gas", 5)], [(10, 10)], [("oil", 10, NOUGHT)],
        )
        self.assert_push(
            oil_then_gas(), (0, 2, "wax", 11), [("wax", 10), ("gas", 5)], [(10, 10)],
            [("oil", 10, NOUGHT), ("wax", 1, (2, 1))],
        )

    def test_since_is_the_node_where_a_like_ware_comes_anew(self):
        # Ahead of the node lie oil 1, wax 3, oil 6: what comes to it behind the wax is oil, but other oil.
        content = pushed(pushed(oil_then_gas(), 0, 2, "wax", 3)[0], 0, 2, "oil", 1)[0]
        self.assertEqual(stretches(content), [("oil", 1), ("wax", 3), ("oil", 6), ("gas", 5)])
        self.assertEqual(meetings(content), [(1, 0), (4, 0), (10, 7)])
        self.assert_push(content, (0, 2, "oil", 9), [("oil", 10), ("gas", 5)], [(10, 10)])

    def test_nothing_meets_where_like_wares_come_together(self):
        self.assert_push(oil_then_gas(), (0, 2, "gas", 10), [("gas", 15)], [], [("oil", 10, NOUGHT)])
        self.assert_push(
            oil_then_gas(), (0, 2, "gas", 4), [("gas", 4), ("oil", 6), ("gas", 5)], [(4, 0), (10, 7)],
        )

    def test_what_was_pushed_in_is_one_with_the_last_stretch(self):
        for volume in [1, 4, 10, 11, 50, 10 ** 7]:
            self.assert_push(
                oil_then_gas(), (0, 2, "oil", volume), [("oil", 10), ("gas", 5)], [(10, 7)], [("oil", volume, NOUGHT)],
            )

    def test_it_is_one_with_the_last_stretch_of_the_row_not_with_what_lies_ahead_of_it(self):
        # From node 1 on the last stretch has 6, though the oil reaches up to the head.
        self.assert_push(
            oil_then_gas(), (1, 2, "wax", 5), [("oil", 4), ("wax", 5), ("oil", 1), ("gas", 5)],
            [(4, 4), (9, 4), (10, 7)], [("oil", 5, NOUGHT)],
        )
        self.assert_push(
            oil_then_gas(), (1, 2, "wax", 6), [("oil", 4), ("wax", 6), ("gas", 5)], [(4, 4), (10, 10)],
            [("oil", 6, NOUGHT)],
        )
        self.assert_push(oil_then_gas(), (1, 2, "oil", 60), [("oil", 10), ("gas", 5)], [(10, 7)])

    def test_the_ware_of_the_last_stretch_again_behind_another(self):
        # Ahead of the node lie oil 4, wax 5, oil 1; oil comes to it again, but not the same stretch.
        content = pushed(oil_then_gas(), 1, 2, "wax", 5)[0]
        self.assert_push(content, (1, 2, "oil", 6), [("oil", 10), ("gas", 5)], [(10, 10)])

    def test_a_meeting_that_comes_to_the_node_just_at_the_end(self):
        content = filled(("oil", 7), ("gas", 8))
        later = self.assert_push(
            content, (0, 2, "wax", 3), [("wax", 3), ("oil", 7), ("gas", 5)], [(3, 0), (10, 10)], [("gas", 3, NOUGHT)],
        )
        self.assert_push(later, (0, 2, "wax", 1), [("wax", 4), ("oil", 6), ("gas", 5)], [(4, 0), (10, 10)],
                         [("oil", 1, NOUGHT)])
        self.assert_push(content, (0, 2, "wax", 4), [("wax", 4), ("oil", 6), ("gas", 5)], [(4, 0), (10, 10)],
                         [("gas", 3, NOUGHT), ("oil", 1, (9, 5))])

    def test_what_lies_behind_the_node_stays(self):
        content = filled(("a", 10), ("b", 1), ("c", 2), ("d", 2))
        self.assert_push(
            content, (0, 2, "e", 10), [("e", 10), ("b", 1), ("c", 2), ("d", 2)],
            [(10, 10), (11, 11), (13, 13)], [("a", 10, NOUGHT)],
        )

    def test_in_a_segment_of_one(self):
        content = Content(a_pipe(rooms=[2, 1, 2]), [("a", 2), ("b", 1), ("c", 2)])
        self.assert_push(content, (1, 2, "b", 3), [("a", 2), ("b", 1), ("c", 2)], [(2, 2), (3, 3)], [("b", 3, NOUGHT)])
        self.assert_push(content, (1, 2, "a", 1), [("a", 3), ("c", 2)], [(3, 3)], [("b", 1, NOUGHT)])
        self.assert_push(content, (1, 2, "c", 1), [("a", 2), ("c", 3)], [(2, 2)], [("b", 1, NOUGHT)])
        self.assert_push(
            content, (1, 2, "d", 2), [("a", 2), ("d", 1), ("c", 2)], [(2, 2), (3, 3)],
            [("b", 1, NOUGHT), ("d", 1, (1, 5))],
        )


class Pigs(PushCase):
    def test_a_pig_goes_with_the_meeting(self):
        content = filled(("gas", 15))
        later = self.assert_push(content, (0, 3, "oil", 3, 7), None, [(3, 0)], None, [(3, 7)], [])
        later = self.assert_push(later, (0, 3, "wax", 2), None, [(2, 0), (5, 0)], None, [(5, 7)], [])
        self.assert_push(later, (0, 3, "wax", 9, 0), None, [(11, 0), (14, 0)], None, [(9, 0), (14, 7)], [])

    def test_numbers_from_the_least_to_the_greatest(self):
        for number in [0, 10 ** 6]:
            self.assert_push(filled(("gas", 15)), (0, 3, "oil", 3, number), None, None, None, [(3, number)], [])

    def test_a_pig_where_nothing_meets(self):
        self.assert_push(filled(("gas", 15)), (0, 3, "gas", 3, 7), [("gas", 15)], [], None, [(3, 7)], [])
        self.assert_push(filled(("gas", 15)), (1, 3, "gas", 3, 7), [("gas", 15)], [], None, [(7, 7)], [])

    def test_pigs_that_come_to_the_node_or_beyond_are_caught(self):
        content = pushed(filled(("gas", 15)), 0, 3, "oil", 3, 7)[0]
        self.assert_push(content, (0, 2, "oil", 6), None, None, None, [(9, 7)], [])
        self.assert_push(content, (0, 2, "oil", 7), None, None, None, [], [7])
        self.assert_push(content, (0, 2, "oil", 8), None, None, None, [], [7])
        self.assert_push(content, (0, 3, "oil", 11), None, None, None, [(14, 7)], [])
        self.assert_push(content, (0, 3, "oil", 12), None, None, None, [], [7])

    def test_one_that_is_handed_in_and_caught_at_once(self):
        self.assert_push(filled(("gas", 15)), (0, 1, "oil", 3, 7), None, None, None, [(3, 7)], [])
        self.assert_push(filled(("gas", 15)), (0, 1, "oil", 4, 7), None, None, None, [], [7])

    def test_the_first_that_comes_is_the_first_that_is_caught(self):
        content = filled(("gas", 15))
        for ware, number in [("oil", 3), ("wax", 1), ("oil", 2)]:
            content = pushed(content, 0, 3, ware, 2, number)[0]
        self.assertEqual(pigs(content), [(2, 2), (4, 1), (6, 3)])
        self.assert_push(content, (0, 3, "gas", 99, 9), None, None, None, [], [3, 1, 2, 9])
        self.assert_push(content, (0, 3, "gas", 11, 9), None, None, None, [(11, 9), (13, 2)], [3, 1])

    def test_two_at_one_place(self):
        content = self.assert_push(meeting_at_node_one(), (1, 3, "wax", 2, 2), None, None, None, [(6, 2), (6, 1)], [])
        self.assert_push(content, (0, 3, "gas", 1), None, None, None, [(7, 2), (7, 1)], [])
        self.assert_push(content, (0, 3, "gas", 9), None, None, None, [], [1, 2])
        self.assert_push(content, (0, 3, "gas", 9, 3), None, None, None, [(9, 3)], [1, 2])

    def test_pigs_at_the_first_node_move_and_leave_the_meeting_where_it_stays(self):
        content = meeting_at_node_one()
        self.assertEqual((meetings(content), pigs(content)), ([(4, 0)], [(4, 1)]))
        self.assert_push(content, (1, 3, "gas", 2), None, [(4, 0)], None, [(6, 1)], [])
        self.assert_push(content, (1, 3, "oil", 2), None, [(6, 0)], None, [(6, 1)], [])
        self.assert_push(content, (1, 3, "wax", 2), None, [(4, 4), (6, 4)], None, [(6, 1)], [])

    def test_pigs_at_the_second_node_stay(self):
        self.assert_push(meeting_at_node_one(), (0, 1, "wax", 2, 5), None, [(2, 0), (4, 0)], None, [(2, 5), (4, 1)], [])
        self.assert_push(meeting_at_node_one(), (0, 1, "wax", 9, 5), None, [(4, 4)], None, [(4, 1)], [5])

    def test_pigs_ahead_and_behind_stay(self):
        content = filled(("gas", 15))
        for volume, number in [(3, 3), (5, 2), (3, 1)]:
            content = pushed(content, 0, 3, "gas", volume, number)[0]
        self.assertEqual(pigs(content), [(3, 1), (8, 2), (11, 3)])
        self.assert_push(content, (1, 2, "gas", 1), None, None, None, [(3, 1), (9, 2), (11, 3)], [])
        self.assert_push(content, (1, 2, "gas", 5, 6), None, None, None, [(3, 1), (9, 6), (11, 3)], [2])
        self.assert_push(content, (1, 2, "gas", 50, 6), None, None, None, [(3, 1), (11, 3)], [2, 6])


class Halves(PushCase):
    def test_a_pig_at_the_meeting(self):
        # Without a pig 2 times 3.
        content = pushed(filled(("gas", 15)), 0, 3, "oil", 4, 1)[0]
        self.assert_push(
            content, (0, 3, "oil", 12), None, None, [("gas", 11, NOUGHT), ("oil", 1, (3, 1))], [], [1],
        )

    def test_a_pig_of_this_very_push(self):
        self.assert_push(
            filled(("gas", 15)), (0, 3, "oil", 16, 5), None, None, [("gas", 15, NOUGHT), ("oil", 1, (3, 1))], [], [5],
        )
        self.assert_push(
            filled(("gas", 15)), (0, 3, "oil", 15, 5), None, None, [("gas", 15, NOUGHT)], [], [5],
        )

    def test_two_pigs_at_a_meeting_count_once(self):
        content = pushed(meeting_at_node_one(), 1, 3, "oil", 2, 2)[0]
        self.assertEqual(pigs(content), [(6, 2), (6, 1)])
        self.assert_push(
            content, (1, 3, "oil", 10), None, None, [("gas", 9, NOUGHT), ("oil", 1, (3, 1))], [], [1, 2],
        )

    def test_a_pig_that_left_its_meeting_counts_no_more(self):
        content = pushed(meeting_at_node_one(), 1, 3, "gas", 1)[0]
        self.assertEqual((meetings(content), pigs(content)), ([(4, 0)], [(5, 1)]))
        self.assert_push(
            content, (0, 3, "oil", 12), None, None, [("gas", 11, NOUGHT), ("oil", 1, (6, 1))], [], [1],
        )

    def test_a_pig_at_another_meeting_or_between(self):
        content = pushed(pushed(filled(("gas", 15)), 0, 3, "oil", 2)[0], 0, 3, "wax", 2, 1)[0]
        content = pushed(content, 0, 3, "wax", 1, 2)[0]
        self.assertEqual((meetings(content), pigs(content)), ([(3, 0), (5, 0)], [(1, 2), (3, 1)]))
        self.assert_push(
            content, (0, 3, "wax", 20), [("wax", 15)], [],
            [("gas", 10, NOUGHT), ("oil", 2, (6, 1)), ("wax", 8, (1, 1))], [], [1, 2],
        )

    def test_pigs_that_wipe_all_and_nothing(self):
        for pig, half in [((0, 7), NOUGHT), ((100, 100), (6, 1)), ((3, 100), (9, 50)), ((2, 4), (3, 1))]:
            content = Content(a_pipe(pig=pig), [("gas", 15)])
            self.assert_push(
                content, (0, 3, "oil", 16, 5), None, None, [("gas", 15, NOUGHT), ("oil", 1, half)], [], [5],
            )

    def test_straight_lines_in_lowest_terms(self):
        for volume, distance_half in [(1, (1, 5)), (2, (2, 5)), (4, (4, 5))]:
            content = Content(a_pipe(rooms=[volume, 3]), [("a", volume), ("b", 3)])
            out = [("a", volume, NOUGHT), ("c", 1, distance_half)]
            self.assert_push(content, (0, 1, "c", volume + 1), None, None, out)

    def test_a_pig_behind_the_node_is_none_of_this_push(self):
        # The pig at the second node stays; the meeting that passes there has none.
        content = meeting_at_node_one()
        self.assert_push(
            content, (0, 1, "wax", 5), None, None, [("oil", 4, NOUGHT), ("wax", 1, (4, 5))], [(4, 1)], [],
        )


class TwoAsOne(PushCase):
    def test_volumes_in_two_pushes(self):
        starts = [filled(("gas", 15)), oil_then_gas(), meeting_at_node_one(), filled(("a", 3), ("wax", 8), ("b", 4))]
        for content in starts:
            for i, j in [(0, 1), (0, 2), (0, 3), (1, 2), (1, 3), (2, 3)]:
                for ware in ["wax", "oil", "gas"]:
                    for first, more in [(1, 1), (2, 9), (6, 4), (5, 10), (10, 6), (16, 1)]:
                        whole, out, caught = pushed(content, i, j, ware, first + more, 8)
                        half_way, out_first, caught_first = pushed(content, i, j, ware, first, 8)
                        later, out_more, caught_more = pushed(half_way, i, j, ware, more)
                        self.assertEqual(stretches(later), stretches(whole))
                        self.assertEqual(meetings(later), meetings(whole))
                        self.assertEqual(pigs(later), pigs(whole))
                        self.assertEqual(caught_first + caught_more, caught)


class Refusals(PushCase):
    def test_no_way(self):
        content = filled(("oil", 7), ("gas", 8))
        for i, j in [(0, 0), (1, 1), (3, 3), (2, 1), (3, 0), (-1, 2), (-2, -1), (0, 4), (3, 4), (4, 5), (0, -1)]:
            with self.subTest(i=i, j=j), self.assertRaises(NoWay):
                pushed(content, i, j, "oil", 1)
        self.assertEqual((stretches(content), meetings(content)), ([("oil", 7), ("gas", 8)], [(7, 7)]))

    def test_no_way_whatever_the_size_of_the_numbers(self):
        with self.assertRaises(NoWay) as caught:
            pushed(filled(("oil", 15)), 10 ** 6000, -10 ** 6000, "oil", 1)
        self.assertIsInstance(str(caught.exception), str)

    def test_touch_behind_no_way(self):
        content = Content(a_pipe(apart=[("oil", "wax")]), [("oil", 15)])
        with self.assertRaises(NoWay):
            pushed(content, 2, 2, "wax", 1)
        with self.assertRaises(Touch) as caught:
            pushed(content, 0, 3, "wax", 1, 4)
        self.assertEqual(caught.exception.pair, ("wax", "oil"))
        self.assertEqual((stretches(content), meetings(content), pigs(content)), ([("oil", 15)], [], []))

    def test_all_ways_there_are(self):
        for i, j in [(0, 1), (0, 2), (0, 3), (1, 2), (1, 3), (2, 3)]:
            self.assert_push(filled(("oil", 15)), (i, j, "oil", 1), [("oil", 15)], [], [("oil", 1, NOUGHT)])


class AtTheBounds(PushCase):
    def test_the_greatest_pipe_and_volume(self):
        pipe = Pipe([10 ** 6] * 6, [(10 ** 6, 10 ** 6)], [("a", "b", 20)], [], (99, 100))
        content = Content(pipe, [("b", 6 * 10 ** 6)])
        later, out, caught = pushed(content, 0, 6, "a", 10 ** 7, 10 ** 6)
        self.assertEqual(stretches(later), [("a", 6 * 10 ** 6)])
        self.assertEqual(out, [("b", 6 * 10 ** 6, NOUGHT), ("a", 4 * 10 ** 6, (198 * 10 ** 5, 1))])
        self.assertEqual(caught, [10 ** 6])

    def test_a_full_fill(self):
        fill = [("a" if k % 2 == 0 else "b", 10 ** 5) for k in range(60)]
        content = Content(Pipe([10 ** 6] * 6, [(10 ** 6, 10 ** 6)], [], [], (1, 1)), fill)
        later, out, caught = pushed(content, 0, 6, "c", 10 ** 7)
        self.assertEqual([(ware, volume) for ware, volume, half in out[:60]], fill[::-1])
        halves = [min(10 ** 6, 10 ** 5 * k) for k in range(1, 60)] + [10 ** 6]
        self.assertEqual([half for ware, volume, half in out[1:]], [(half, 1) for half in halves])
        self.assertEqual(out[60][:2], ("c", 4 * 10 ** 6))

    def test_a_content_of_more_stretches_than_a_fill_may_have(self):
        content = Content(Pipe([300], [(10, 1)], [], [("b", "c")], (1, 2)), [("c", 300)])
        for number in range(150):
            content = pushed(content, 0, 1, "a" if number % 2 == 0 else "b", 1, number)[0]
        self.assertEqual(len(stretches(content)), 151)
        self.assertEqual(meetings(content), [(place, 0) for place in range(1, 151)])
        self.assertEqual(pigs(content), [(place, 150 - place) for place in range(1, 151)])


if __name__ == "__main__":
    unittest.main()
