import unittest

from batchpipe.content import pigs, stretches
from batchpipe.errors import BadDeed, PipeError
from batchpipe.pipe import Pipe
from batchpipe.pushing import pushed
from batchpipe.tanks import level_of
from batchpipe.views import told_out
from batchpipe.works import Works, do_deed
from works_state import works_state

def works_with(
    fill=(("oil", 20),), sources=((0, "gas", 1000, 0, 4),), tanks=(), bounds=(), orders=(),
    half=2, apart=(), rooms=(10, 10),
):
    # Wherever two wares have gone together for a while their half is the one told, with a pig 0.
    pipe = Pipe(list(rooms), [(1, half)], [], list(apart), (0, 1))
    return Works(pipe, list(fill), list(sources), list(tanks), list(bounds), list(orders))


def open_tank(node, ware, start=0):
    return (node, ware, 0, 10 ** 9, start, 0)


def tank_of(works, node, ware):
    return [tank for where, tank in works.tanks if where == node and tank.ware == ware][0]


class DeedCase(unittest.TestCase):
    def assert_refused(self, works, deed, word):
        before = works_state(works)
        content = works.content
        with self.assertRaises(BadDeed) as caught:
            do_deed(works, deed)
        self.assertEqual(caught.exception.word, word)
        self.assertIsInstance(caught.exception, PipeError)
        self.assertEqual(works_state(works), before)
        self.assertIs(works.content, content)

    def assert_holds(self, works, node, ware, holds, rested=None):
        self.assertEqual(tank_of(works, node, ware).holds, holds)
        if rested is not None:
            self.assertEqual(tank_of(works, node, ware).rested, rested)


class PushDone(DeedCase):
    def test_all_that_changes(self):
        works = works_with(tanks=[open_tank(2, "gas"), open_tank(2, "oil", 5)])
        told = do_deed(works, ("push", 0, 2, "gas", 30, None))
        view = [
            ((0, 1), (18, 1), [("oil", (18, 1))]),
            ((18, 1), (22, 1), [("gas", (2, 1)), ("oil", (2, 1))]),
            ((22, 1), (30, 1), [("gas", (8, 1))]),
        ]
        self.assertEqual(told, ("push", view, ["oil", None, "gas"], []))
        self.assertEqual(works.hour, (15, 2))
        self.assertEqual(works.sources, [(0, "gas", 970, 0, 4)])
        self.assertEqual(stretches(works.content), [("gas", 20)])
        self.assert_holds(works, 2, "oil", [("oil", (23, 1))], (9, 2))
        self.assert_holds(works, 2, "gas", [("gas", (8, 1))], (15, 2))
        self.assertEqual(works.slops, [(2, [("gas", (2, 1)), ("oil", (2, 1))])])

    def test_kinds(self):
        works = works_with(tanks=[open_tank(2, "gas")])
        told = do_deed(works, ("push", 0, 2, "gas", 30, 5))
        self.assertIs(type(told), tuple)
        self.assertEqual(len(told), 4)
        for part in told[1:]:
            self.assertIs(type(part), list)

    def test_told_is_the_view_of_what_came_out(self):
        works = works_with(fill=[("oil", 6), ("gas", 5), ("wax", 9)], half=1)
        later, out, caught = pushed(works.content, 0, 2, "gas", 17, 3)
        told = do_deed(works, ("push", 0, 2, "gas", 17, 3))
        self.assertEqual(told[1], told_out(out))
        self.assertEqual(told[2], [None] * len(told[1]))
        self.assertEqual(stretches(works.content), stretches(later))

    def test_the_right_source_of_several(self):
        sources = [(0, "oil", 50, 0, 5), (1, "gas", 50, 0, 3), (0, "gas", 50, 0, 7), (1, "oil", 50, 0, 2)]
        for i, ware, number, hour in [(0, "oil", 0, (6, 5)), (1, "gas", 1, (2, 1)), (0, "gas", 2, (6, 7))]:
            works = works_with(sources=sources)
            do_deed(works, ("push", i, 2, ware, 6, None))
            self.assertEqual(works.hour, hour)
            wanted = list(sources)
            wanted[number] = (i, ware, 44, 0, sources[number][4])
            self.assertEqual(works.sources, wanted)

    def test_the_hours_of_several_pushes_sum_up(self):
        works = works_with(sources=[(0, "gas", 50, 0, 6), (1, "gas", 50, 0, 4)])
        do_deed(works, ("push", 0, 2, "gas", 1, None))
        do_deed(works, ("push", 1, 2, "gas", 1, None))
        self.assertEqual(works.hour, (5, 12))
        do_deed(works, ("wait", 2))
        self.assertEqual(works.hour, (29, 12))

    def test_caught_pigs(self):
        works = works_with()
        self.assertEqual(do_deed(works, ("push", 0, 2, "gas", 8, 4))[3], [])
        self.assertEqual(pigs(works.content), [(8, 4)])
        self.assertEqual(do_deed(works, ("push", 0, 2, "gas", 5, 0))[3], [])
        told = do_deed(works, ("push", 0, 2, "gas", 30, 9))
        self.assertEqual(told[3], [4, 0, 9])
        # The pig lay at the meeting, so nothing was mixed there.
        self.assertEqual([shares for start, stop, shares in told[1]], [[("oil", (7, 1))], [("gas", (23, 1))]])

    def test_no_pig_is_none(self):
        works = works_with()
        do_deed(works, ("push", 0, 2, "gas", 8, None))
        self.assertEqual(pigs(works.content), [])
        do_deed(works, ("push", 0, 2, "gas", 8, 0))
        self.assertEqual(pigs(works.content), [(8, 0)])

    def test_a_push_between_nodes_within(self):
        works = works_with(
            rooms=(5, 5, 10), sources=[(1, "gas", 9, 0, 2)], tanks=[open_tank(2, "oil"), open_tank(3, "oil")])
        told = do_deed(works, ("push", 1, 2, "gas", 4, None))
        self.assertEqual(told, ("push", [((0, 1), (4, 1), [("oil", (4, 1))])], ["oil"], []))
        self.assert_holds(works, 2, "oil", [("oil", (4, 1))], (2, 1))
        self.assert_holds(works, 3, "oil", [], (0, 1))


class PushGoals(DeedCase):
    """Oil, then gas, comes out at node 2; two of each are mixed between."""

    def goals(self, works, volume=30):
        return do_deed(works, ("push", 0, 2, "gas", volume, None))[2]

    def test_tanks_of_another_node_take_nothing(self):
        works = works_with(tanks=[open_tank(1, "gas", 50), open_tank(1, "oil", 50)], bounds=[("gas", "oil", (1, 1))])
        self.assertEqual(self.goals(works), [None, None, None])
        self.assertEqual(works.slops, [(2, [("gas", (10, 1)), ("oil", (20, 1))])])
        self.assert_holds(works, 1, "gas", [("gas", (50, 1))], (0, 1))

    def test_a_pure_one_goes_to_no_other_ware(self):
        works = works_with(tanks=[open_tank(2, "wax", 50)], bounds=[("wax", "oil", (1, 1)), ("wax", "gas", (1, 1))])
        self.assertEqual(self.goals(works), [None, None, None])

    def test_of_like_shares_the_lesser_ware_is_asked_first(self):
        both = [("gas", "oil", (1, 2)), ("oil", "gas", (1, 2))]
        tanks = [open_tank(2, "oil", 50), open_tank(2, "gas", 50)]
        self.assertEqual(self.goals(works_with(tanks=tanks, bounds=both)), ["oil", "gas", "gas"])
        self.assertEqual(self.goals(works_with(tanks=tanks[::-1], bounds=both)), ["oil", "gas", "gas"])

    def test_of_like_shares_the_second_one_where_the_first_may_not(self):
        tanks = [open_tank(2, "gas", 50), open_tank(2, "oil", 50)]
        self.assertEqual(self.goals(works_with(tanks=tanks, bounds=[("oil", "gas", (1, 2))])), ["oil", "oil", "gas"])

    def test_of_like_shares_the_second_one_where_the_first_has_no_tank(self):
        works = works_with(tanks=[open_tank(2, "oil", 50)], bounds=[("oil", "gas", (1, 2))])
        self.assertEqual(self.goals(works), ["oil", "oil", None])
        self.assert_holds(works, 2, "oil", [("gas", (2, 1)), ("oil", (70, 1))], (11, 2))

    def test_no_tank_may_blend_it(self):
        works = works_with(tanks=[open_tank(2, "gas", 50), open_tank(2, "oil", 50)])
        self.assertEqual(self.goals(works), ["oil", None, "gas"])

    def test_the_greater_share_is_asked_first(self):
        # One of gas comes out behind the meeting, so that 2 of oil and 1 of gas are mixed.
        both = [("gas", "oil", (1, 2)), ("oil", "gas", (1, 2))]
        works = works_with(tanks=[open_tank(2, "gas", 50), open_tank(2, "oil", 50)], bounds=both)
        self.assertEqual(self.goals(works, 21), ["oil", "oil"])
        self.assert_holds(works, 2, "oil", [("gas", (1, 1)), ("oil", (70, 1))])

    def test_the_lesser_share_where_the_greater_may_not(self):
        works = works_with(tanks=[open_tank(2, "gas", 50), open_tank(2, "oil", 50)], bounds=[("gas", "oil", (1, 2))])
        self.assertEqual(self.goals(works, 21), ["oil", "gas"])
        self.assert_holds(works, 2, "gas", [("gas", (51, 1)), ("oil", (2, 1))], (21, 4))

    def test_three_wares_in_one(self):
        # The meetings of c and b and of b and a reach into one another: 2 of c, 3 of b, 2 of a.
        fill = [("a", 9), ("b", 3), ("c", 8)]
        for may, goal in [("abc", "b"), ("ac", "a"), ("c", "c"), ("", None)]:
            bounds = [(ware, other, (1, 1)) for ware in may for other in "abc" if other != ware]
            works = works_with(fill=fill, tanks=[open_tank(2, ware) for ware in "cba"], bounds=bounds)
            told = do_deed(works, ("push", 0, 2, "gas", 15, None))
            self.assertEqual(told[1][1], ((6, 1), (13, 1), [("a", (2, 1)), ("b", (3, 1)), ("c", (2, 1))]))
            self.assertEqual(told[2], ["c", goal, "a"])

    def test_shares_of_unlike_parts_are_compared_by_their_worth(self):
        # 4/3 of oil and 1 of gas: the parts and numbers of the fractions rise otherwise than their worths.
        pipe = Pipe([20], [(30, 2)], [], [], (1, 1))
        both = [("gas", "oil", (1, 1)), ("oil", "gas", (1, 1))]
        tanks = [open_tank(1, "gas"), open_tank(1, "oil")]
        works = Works(pipe, [("oil", 20)], [(0, "gas", 99, 0, 1)], tanks, both, [])
        told = do_deed(works, ("push", 0, 1, "gas", 21, None))
        self.assertEqual(told[1][1][2], [("gas", (1, 1)), ("oil", (4, 3))])
        self.assertEqual(told[2], ["oil", "oil"])

    def test_a_tank_that_an_earlier_triple_filled(self):
        # Without the pure 18 of oil the tank would hold half gas.
        works = works_with(tanks=[open_tank(2, "oil")], bounds=[("oil", "gas", (1, 11))])
        self.assertEqual(self.goals(works), ["oil", "oil", None])
        self.assert_holds(works, 2, "oil", [("gas", (2, 1)), ("oil", (20, 1))], (11, 2))
        works = works_with(tanks=[open_tank(2, "oil")], bounds=[("oil", "gas", (90, 1000))])
        self.assertEqual(self.goals(works), ["oil", None, None])

    def test_a_tank_that_is_filled_by_a_later_triple_only(self):
        works = works_with(tanks=[open_tank(2, "gas")], bounds=[("gas", "oil", (1, 4))])
        self.assertEqual(self.goals(works), [None, None, "gas"])

    def test_the_bounds_part_and_beyond(self):
        for part, goal in [((1, 26), "gas"), ((2, 52), "gas"), ((1, 27), None), ((0, 1), None), ((1, 1), "gas")]:
            works = works_with(tanks=[open_tank(2, "gas", 48)], bounds=[("gas", "oil", part)])
            self.assertEqual(self.goals(works), [None, goal, "gas"])

    def test_a_mixed_one_that_an_earlier_one_of_the_same_push_spoils(self):
        # Oil, gas, oil, gas come out: the first mixed one takes up all that the tank of gas may hold of oil.
        fill = [("gas", 5), ("oil", 5), ("gas", 5), ("oil", 5)]
        for part, goals in [
            ((1, 13), [None, "gas", None]), ((1, 12), ["gas", None, None]), ((2, 17), ["gas", "gas", None]),
            ((3, 19), ["gas", "gas", "gas"]),
        ]:
            works = works_with(fill=fill, tanks=[open_tank(2, "gas", 10)], bounds=[("gas", "oil", part)], half=1)
            told = do_deed(works, ("push", 0, 2, "gas", 20, None))
            goals_of_mixed = [goal for goal, triple in zip(told[2], told[1]) if len(triple[2]) > 1]
            self.assertEqual(goals_of_mixed, goals)


class PushSlops(DeedCase):
    def test_slops_of_several_pushes_and_nodes(self):
        sources = [(0, "gas", 99, 0, 1), (0, "oil", 99, 0, 1), (0, "wax", 99, 0, 1)]
        works = works_with(sources=sources, half=0)
        do_deed(works, ("push", 0, 2, "gas", 4, None))
        self.assertEqual(works.slops, [(2, [("oil", (4, 1))])])
        do_deed(works, ("push", 0, 1, "wax", 9, None))
        self.assertEqual(works.slops, [(1, [("gas", (3, 1)), ("oil", (6, 1))]), (2, [("oil", (4, 1))])])
        do_deed(works, ("push", 0, 1, "wax", 1, None))
        self.assertEqual(works.slops, [(1, [("gas", (4, 1)), ("oil", (6, 1))]), (2, [("oil", (4, 1))])])
        do_deed(works, ("push", 0, 2, "oil", 12, None))
        wanted = [(1, [("gas", (4, 1)), ("oil", (6, 1))]), (2, [("oil", (14, 1)), ("wax", (2, 1))])]
        self.assertEqual(works.slops, wanted)

    def test_a_node_whose_tanks_took_all_has_none(self):
        works = works_with(tanks=[open_tank(2, "oil")])
        do_deed(works, ("push", 0, 2, "gas", 4, None))
        self.assertEqual(works.slops, [])

    def test_nodes_rise_as_numbers(self):
        works = works_with(rooms=(1,) * 6, fill=[("oil", 6)], sources=[(0, "gas", 99, 0, 1)])
        for node in [5, 2, 6, 1, 3]:
            do_deed(works, ("push", 0, node, "gas", 1, None))
        self.assertEqual([node for node, shares in works.slops], [1, 2, 3, 5, 6])


class PushRested(DeedCase):
    def test_each_tank_by_the_end_of_its_last_triple(self):
        # Oil 8, gas 5, oil 7 come out, and gas behind them; nothing is mixed.
        works = works_with(
            fill=[("oil", 7), ("gas", 5), ("oil", 8)], half=0, sources=[(0, "gas", 99, 0, 3)],
            tanks=[open_tank(2, "oil"), open_tank(2, "gas"), open_tank(2, "wax"), open_tank(1, "oil")])
        do_deed(works, ("wait", 10))
        do_deed(works, ("push", 0, 2, "gas", 26, None))
        self.assert_holds(works, 2, "oil", [("oil", (15, 1))], (50, 3))
        self.assert_holds(works, 2, "gas", [("gas", (11, 1))], (56, 3))
        self.assert_holds(works, 2, "wax", [], (0, 1))
        self.assert_holds(works, 1, "oil", [], (0, 1))
        self.assertEqual(works.hour, (56, 3))

    def test_an_end_that_is_no_whole_place(self):
        pipe = Pipe([20], [(30, 2)], [], [], (1, 1))
        works = Works(pipe, [("oil", 20)], [(0, "gas", 99, 0, 5)], [open_tank(1, "oil")], [], [])
        do_deed(works, ("push", 0, 1, "gas", 25, None))
        # Pure oil came out up to place 56 / 3.
        self.assert_holds(works, 1, "oil", [("oil", (56, 3))], (56, 15))

    def test_a_tank_that_took_nothing_stays(self):
        works = works_with(tanks=[open_tank(2, "oil"), open_tank(2, "gas", 3)])
        do_deed(works, ("push", 0, 2, "gas", 3, None))
        do_deed(works, ("wait", 3))
        do_deed(works, ("push", 0, 2, "gas", 3, None))
        self.assert_holds(works, 2, "oil", [("oil", (6, 1))], (9, 2))
        self.assert_holds(works, 2, "gas", [("gas", (3, 1))], (0, 1))


class PushRefused(DeedCase):
    def test_way(self):
        for i, j in [(0, 0), (1, 1), (2, 2), (1, 0), (2, 1), (0, 3), (2, 3), (-1, 1), (3, 4), (-2, -1)]:
            self.assert_refused(works_with(), ("push", i, j, "gas", 3, None), "way")
            self.assert_refused(works_with(), ("push", i, j, "wax", 3, 7), "way")

    def test_source(self):
        works = works_with(sources=[(0, "gas", 1000, 0, 4), (1, "wax", 1000, 0, 4)])
        self.assert_refused(works, ("push", 0, 2, "oil", 3, None), "source")
        self.assert_refused(works, ("push", 0, 2, "wax", 3, None), "source")
        self.assert_refused(works, ("push", 1, 2, "gas", 3, None), "source")
        self.assert_refused(works_with(sources=[]), ("push", 0, 1, "gas", 3, None), "source")

    def test_touch_at_the_beginning_and_at_the_node(self):
        self.assert_refused(works_with(apart=[("oil", "gas")]), ("push", 0, 2, "gas", 3, None), "touch")
        works = works_with(
            fill=[("wax", 10), ("tar", 10)], sources=[(0, "gas", 1000, 0, 4)], apart=[("tar", "gas")])
        self.assert_refused(works, ("push", 0, 1, "gas", 10, None), "touch")
        do_deed(works, ("push", 0, 1, "gas", 9, None))
        self.assertEqual(stretches(works.content), [("gas", 9), ("wax", 1), ("tar", 10)])

    def test_low_just_at_it_and_one_beyond(self):
        works = works_with(sources=[(0, "gas", 50, 20, 4)])
        self.assert_refused(works, ("push", 0, 2, "gas", 31, None), "low")
        do_deed(works, ("push", 0, 2, "gas", 30, None))
        self.assertEqual(works.sources, [(0, "gas", 20, 20, 4)])
        self.assert_refused(works, ("push", 0, 2, "gas", 1, None), "low")

    def test_low_of_nothing(self):
        works = works_with(sources=[(0, "gas", 5, 0, 4)])
        self.assert_refused(works, ("push", 0, 2, "gas", 6, None), "low")
        do_deed(works, ("push", 0, 2, "gas", 5, None))
        self.assertEqual(works.sources, [(0, "gas", 0, 0, 4)])

    def test_high_just_at_it_and_one_beyond(self):
        works = works_with(tanks=[(2, "oil", 0, 25, 5, 0)], half=0)
        self.assert_refused(works_with(tanks=[(2, "oil", 0, 25, 6, 0)], half=0), ("push", 0, 2, "gas", 20, 3), "high")
        do_deed(works, ("push", 0, 2, "gas", 20, 3))
        self.assertEqual(level_of(tank_of(works, 2, "oil")), (25, 1))
        works = works_with(tanks=[(2, "oil", 0, 25, 6, 0)], half=0)
        do_deed(works, ("push", 0, 2, "gas", 19, 3))
        self.assertEqual(level_of(tank_of(works, 2, "oil")), (25, 1))

    def test_high_of_a_part(self):
        pipe = Pipe([20], [(30, 2)], [], [], (1, 1))
        for start, word in [(81, None), (82, "high")]:
            # 18 + 2 / 3 of pure oil come out.
            works = Works(
                pipe, [("oil", 20)], [(0, "gas", 99, 0, 5)], [(1, "oil", 0, 100, start, 0)], [], [])
            if word is None:
                do_deed(works, ("push", 0, 1, "gas", 25, None))
                self.assertEqual(level_of(works.tanks[0][1]), (299, 3))
            else:
                self.assert_refused(works, ("push", 0, 1, "gas", 25, None), word)

    def test_high_by_a_later_triple_refuses_the_whole_deed(self):
        works = works_with(tanks=[open_tank(2, "oil"), (2, "gas", 0, 10, 3, 0)])
        self.assert_refused(works, ("push", 0, 2, "gas", 30, None), "high")
        do_deed(works, ("push", 0, 2, "gas", 29, None))
        self.assertEqual(works.hour, (29, 4))

    def test_high_by_two_triples_together(self):
        # Two stretches of oil, 8 and 7, with gas between.
        fill = [("oil", 7), ("gas", 5), ("oil", 8)]
        works = works_with(fill=fill, tanks=[(2, "oil", 0, 14, 0, 0)], half=0)
        self.assert_refused(works, ("push", 0, 2, "gas", 20, None), "high")
        works = works_with(fill=fill, tanks=[(2, "oil", 0, 15, 0, 0)], half=0)
        do_deed(works, ("push", 0, 2, "gas", 20, None))

    def test_high_of_the_tank_that_may_blend_though_another_one_has_room(self):
        both = [("gas", "oil", (1, 2)), ("oil", "gas", (1, 2))]
        works = works_with(tanks=[(2, "gas", 0, 53, 50, 0), open_tank(2, "oil", 50)], bounds=both)
        self.assert_refused(works, ("push", 0, 2, "gas", 22, None), "high")
        works = works_with(tanks=[(2, "gas", 0, 54, 50, 0), open_tank(2, "oil", 50)], bounds=both)
        self.assertEqual(do_deed(works, ("push", 0, 2, "gas", 22, None))[2], ["oil", "gas"])

    def test_slop_has_no_high(self):
        works = works_with(sources=[(0, "gas", 10 ** 9, 0, 4)])
        do_deed(works, ("push", 0, 2, "gas", 10 ** 7, None))
        self.assertEqual(works.slops, [(2, [("gas", (10 ** 7 - 20, 1)), ("oil", (20, 1))])])

    def test_which_word_comes_first(self):
        """All that is wrong is mended one by one: the words come in their order."""
        tanks = [(2, "oil", 0, 5, 5, 0)]
        apart = [("oil", "gas")]
        short = [(0, "gas", 10, 5, 4)]
        self.assert_refused(works_with(sources=[], tanks=tanks, apart=apart), ("push", 1, 1, "gas", 6, None), "way")
        self.assert_refused(works_with(sources=[], tanks=tanks, apart=apart), ("push", 0, 2, "gas", 6, None), "source")
        self.assert_refused(works_with(sources=short, tanks=tanks, apart=apart), ("push", 0, 2, "gas", 6, 1), "touch")
        self.assert_refused(works_with(sources=short, tanks=tanks), ("push", 0, 2, "gas", 6, None), "low")
        self.assert_refused(works_with(sources=short, tanks=tanks), ("push", 0, 2, "gas", 5, None), "high")
        do_deed(works_with(sources=short), ("push", 0, 2, "gas", 5, None))


class Wait(DeedCase):
    def test_the_hour_grows(self):
        works = works_with(tanks=[open_tank(2, "oil", 5)])
        before = works_state(works)
        self.assertEqual(do_deed(works, ("wait", 1)), ("wait",))
        self.assertEqual(works.hour, (1, 1))
        do_deed(works, ("wait", 10000))
        self.assertEqual(works.hour, (10001, 1))
        after = works_state(works)
        del before["hour"], after["hour"]
        self.assertEqual(after, before)


class TakeDone(DeedCase):
    def test_all_that_changes(self):
        works = works_with(tanks=[(2, "oil", 3, 90, 40, 0), open_tank(2, "gas", 7)], orders=[
            (2, "oil", 12, 0, 1), (2, "gas", 7, 0, 0), (2, "oil", 25, 0, 0)])
        self.assertEqual(do_deed(works, ("take", 2)), ("take", [("oil", (25, 1))]))
        self.assertEqual(works.taken, [2])
        self.assert_holds(works, 2, "oil", [("oil", (15, 1))], (0, 1))
        self.assertEqual(do_deed(works, ("take", 0)), ("take", [("oil", (12, 1))]))
        self.assertEqual(do_deed(works, ("take", 1)), ("take", [("gas", (7, 1))]))
        self.assertEqual(works.taken, [2, 0, 1])
        self.assert_holds(works, 2, "oil", [("oil", (3, 1))])
        self.assert_holds(works, 2, "gas", [])
        self.assertEqual(works.hour, (0, 1))
        self.assertEqual([node for node, tank in works.tanks], [2, 2])

    def test_what_is_blended_goes_in_the_same_part(self):
        works = works_with(
            tanks=[(2, "oil", 0, 90, 24, 0)], bounds=[("oil", "gas", (1, 2))], orders=[(2, "oil", 23, 0, 1)])
        do_deed(works, ("push", 0, 2, "gas", 22, None))
        self.assertEqual(do_deed(works, ("take", 0)), ("take", [("gas", (1, 1)), ("oil", (22, 1))]))
        self.assert_holds(works, 2, "oil", [("gas", (1, 1)), ("oil", (22, 1))], (11, 2))

    def test_the_tank_of_the_orders_node(self):
        works = works_with(tanks=[open_tank(1, "oil", 9), open_tank(2, "oil", 9)], orders=[(2, "oil", 4, 0, 0)])
        do_deed(works, ("take", 0))
        self.assert_holds(works, 1, "oil", [("oil", (9, 1))])
        self.assert_holds(works, 2, "oil", [("oil", (5, 1))])

    def test_an_emptied_tank_is_filled_anew(self):
        works = works_with(tanks=[(2, "oil", 0, 5, 5, 0)], orders=[(2, "oil", 5, 0, 0)])
        self.assert_refused(works, ("push", 0, 2, "gas", 5, None), "high")
        do_deed(works, ("take", 0))
        self.assert_holds(works, 2, "oil", [])
        do_deed(works, ("push", 0, 2, "gas", 5, None))
        self.assert_holds(works, 2, "oil", [("oil", (5, 1))], (5, 4))


class TakeRefused(DeedCase):
    def works(self, first=0, last=0, tank=(2, "oil", 0, 100, 50, 0), volume=10, rate=1):
        return works_with(
            sources=[(0, "gas", 1000, 0, rate)], tanks=[tank], orders=[(2, "oil", volume, first, last)], half=0)

    def test_no_such_order(self):
        for k in [1, 2, -1, -2, 10 ** 30, -10 ** 30]:
            self.assert_refused(self.works(), ("take", k), "order")
        self.assert_refused(works_with(), ("take", 0), "order")

    def test_an_order_taken_twice(self):
        works = self.works()
        do_deed(works, ("take", 0))
        self.assert_refused(works, ("take", 0), "order")
        self.assertEqual(works.taken, [0])

    def test_no_such_tank(self):
        self.assert_refused(self.works(tank=(1, "oil", 0, 100, 50, 0)), ("take", 0), "tank")
        self.assert_refused(self.works(tank=(2, "gas", 0, 100, 50, 0)), ("take", 0), "tank")

    def test_early_up_to_the_first_days_beginning(self):
        works = self.works(first=2, last=2)
        do_deed(works, ("wait", 47))
        self.assert_refused(works, ("take", 0), "early")
        do_deed(works, ("wait", 1))
        do_deed(works, ("take", 0))

    def test_early_by_a_part_of_an_hour(self):
        works = self.works(first=1, last=2, rate=7)
        do_deed(works, ("wait", 23))
        do_deed(works, ("push", 0, 2, "gas", 6, None))
        self.assert_refused(works, ("take", 0), "early")
        do_deed(works, ("push", 0, 2, "gas", 1, None))
        self.assertEqual(works.hour, (24, 1))
        do_deed(works, ("take", 0))

    def test_late_behind_the_last_days_end(self):
        works = self.works(first=0, last=2)
        do_deed(works, ("wait", 72))
        do_deed(works, ("take", 0))
        works = self.works(first=0, last=2)
        do_deed(works, ("wait", 73))
        self.assert_refused(works, ("take", 0), "late")

    def test_late_by_a_part_of_an_hour(self):
        works = self.works(first=0, last=0, rate=7)
        do_deed(works, ("wait", 24))
        do_deed(works, ("push", 0, 2, "gas", 1, None))
        self.assert_refused(works, ("take", 0), "late")

    def test_the_last_of_all_days(self):
        works = self.works(first=400, last=400)
        do_deed(works, ("wait", 9599))
        self.assert_refused(works, ("take", 0), "early")
        do_deed(works, ("wait", 25))
        do_deed(works, ("take", 0))

    def test_settle_from_the_first_hour_on(self):
        works = self.works(tank=(2, "oil", 0, 100, 50, 6))
        do_deed(works, ("wait", 5))
        self.assert_refused(works, ("take", 0), "settle")
        do_deed(works, ("wait", 1))
        do_deed(works, ("take", 0))

    def test_settle_from_when_something_came_in(self):
        works = self.works(tank=(2, "oil", 0, 100, 50, 6), rate=2)
        do_deed(works, ("push", 0, 2, "gas", 9, None))
        do_deed(works, ("wait", 5))
        self.assert_refused(works, ("take", 0), "settle")
        do_deed(works, ("push", 0, 1, "gas", 2, None))
        self.assertEqual(works.hour, (21, 2))
        # What went to another node does not count.
        do_deed(works, ("take", 0))

    def test_settle_goes_by_the_triples_end_and_not_by_the_pushs(self):
        works = self.works(tank=(2, "oil", 0, 100, 50, 6), rate=2)
        # All oil is in at hour 10, the push ends at hour 16.
        do_deed(works, ("push", 0, 2, "gas", 32, None))
        self.assert_holds(works, 2, "oil", [("oil", (70, 1))], (10, 1))
        do_deed(works, ("take", 0))

    def test_low_just_at_it_and_one_beyond(self):
        self.assert_refused(self.works(tank=(2, "oil", 41, 100, 50, 0)), ("take", 0), "low")
        works = self.works(tank=(2, "oil", 40, 100, 50, 0))
        do_deed(works, ("take", 0))
        self.assert_holds(works, 2, "oil", [("oil", (40, 1))])

    def test_low_of_an_empty_tank(self):
        self.assert_refused(self.works(tank=(2, "oil", 0, 100, 0, 0)), ("take", 0), "low")
        self.assert_refused(self.works(tank=(2, "oil", 0, 100, 9, 0)), ("take", 0), "low")
        works = self.works(tank=(2, "oil", 0, 100, 10, 0))
        do_deed(works, ("take", 0))
        self.assert_holds(works, 2, "oil", [])

    def test_low_by_a_part(self):
        # 18 + 2 / 3 of oil come in: 10 may go of it where 8 are to be left, but not where 9 are.
        pipe = Pipe([20], [(30, 2)], [], [], (1, 1))
        for low, word in [(8, None), (9, "low")]:
            works = Works(
                pipe, [("oil", 20)], [(0, "gas", 99, 0, 5)], [(1, "oil", low, 99, 0, 0)], [], [(1, "oil", 10, 0, 1)])
            do_deed(works, ("push", 0, 1, "gas", 25, None))
            if word is None:
                do_deed(works, ("take", 0))
                self.assertEqual(level_of(works.tanks[0][1]), (26, 3))
            else:
                self.assert_refused(works, ("take", 0), word)

    def test_which_word_comes_first(self):
        """All that is wrong is mended one by one: the words come in their order."""
        short = (2, "oil", 0, 100, 5, 999)
        works = self.works(first=3, last=3, tank=(1, "oil", 0, 100, 5, 999))
        self.assert_refused(works, ("take", 1), "order")
        self.assert_refused(works, ("take", 0), "tank")
        works = self.works(first=3, last=3, tank=short)
        self.assert_refused(works, ("take", 0), "early")
        do_deed(works, ("wait", 97))
        self.assert_refused(works, ("take", 0), "late")
        works = self.works(first=3, last=3, tank=short)
        do_deed(works, ("wait", 80))
        self.assert_refused(works, ("take", 0), "settle")
        works = self.works(first=3, last=3, tank=(2, "oil", 0, 100, 5, 80))
        do_deed(works, ("wait", 80))
        self.assert_refused(works, ("take", 0), "low")
        works = self.works(first=3, last=3, tank=(1, "oil", 0, 100, 5, 999))
        do_deed(works, ("wait", 97))
        self.assert_refused(works, ("take", 0), "tank")
        works = self.works(tank=(2, "oil", 0, 100, 10, 0))
        do_deed(works, ("take", 0))
        do_deed(works, ("wait", 97))
        self.assert_refused(works, ("take", 0), "order")


if __name__ == "__main__":
    unittest.main()
