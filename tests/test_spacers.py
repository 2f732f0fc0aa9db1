import inspect
import unittest

from batchpipe.content import Content, meetings, pigs, stretches
from batchpipe.errors import NoSpacer, NoWay, Touch
from batchpipe.pipe import Pipe
from batchpipe.pushing import pushed
from batchpipe.spacers import sent, spacer_for

# Nodes at the places 0, 4, 10, 15: u lies ahead of node 1, d behind it; r lies behind node 2.
FILL = [("u", 4), ("d", 6), ("r", 5)]
ABC = [("a", 1), ("b", 2), ("c", 3)]


def content_with(apart, fill=FILL):
    return Content(Pipe([4, 6, 5], [(10, 2)], [("x", "s", 3)], list(apart), (1, 2)), list(fill))


def state_of(content):
    return (stretches(content), meetings(content), pigs(content))


class Interface(unittest.TestCase):
    def test_the_arguments_have_their_names(self):
        self.assertEqual(list(inspect.signature(spacer_for).parameters), ["content", "i", "j", "ware", "spacers"])
        names = ["content", "i", "j", "ware", "volume", "spacers"]
        self.assertEqual(list(inspect.signature(sent).parameters), names)
        content = content_with([("x", "u")])
        self.assertEqual(spacer_for(content=content, i=0, j=3, ware="x", spacers=ABC), ("a", 1))
        later, outs = sent(content=content, i=0, j=3, ware="x", volume=2, spacers=ABC)
        self.assertEqual(stretches(later)[:2], [("x", 2), ("a", 1)])

    def test_kinds(self):
        content = content_with([("x", "u")])
        self.assertIs(type(spacer_for(content, 0, 3, "x", ABC)), tuple)
        for ware, count in [("x", 2), ("y", 1)]:
            answer = sent(content, 0, 3, ware, 5, ABC)
            self.assertIs(type(answer), tuple)
            self.assertEqual(len(answer), 2)
            self.assertIs(type(answer[0]), Content)
            self.assertIs(type(answer[1]), list)
            self.assertEqual(len(answer[1]), count)
            for out in answer[1]:
                self.assertIs(type(out), list)
                self.assertIs(type(out[0]), tuple)


class NoneIsNeeded(unittest.TestCase):
    def test_where_nothing_must_be_apart(self):
        for i, j in [(0, 1), (0, 3), (1, 2), (2, 3)]:
            self.assertIsNone(spacer_for(content_with([]), i, j, "x", []))
            self.assertIsNone(spacer_for(content_with([]), i, j, "x", ABC))

    def test_what_lies_ahead_counts_within_only(self):
        apart = [("x", "u")]
        self.assertEqual(spacer_for(content_with(apart), 0, 3, "x", ABC), ("a", 1))
        with self.assertRaises(NoSpacer):
            spacer_for(content_with(apart), 1, 3, "x", ABC)
        self.assertIsNone(spacer_for(content_with(apart), 2, 3, "x", ABC))

    def test_what_touches_later_in_the_push_does_not_count(self):
        # x comes to r at node 2, but not at the beginning.
        content = content_with([("x", "r")])
        self.assertIsNone(spacer_for(content, 0, 2, "x", ABC))
        with self.assertRaises(Touch) as caught:
            sent(content, 0, 2, "x", 10, ABC)
        self.assertEqual(caught.exception.pair, ("x", "r"))

    def test_a_ware_and_its_like(self):
        self.assertIsNone(spacer_for(content_with([("u", "x")]), 0, 3, "u", []))
        self.assertIsNone(spacer_for(content_with([("d", "x")]), 1, 3, "d", []))


class FirstThatFits(unittest.TestCase):
    def assert_spacer(self, apart, i, ware, spacers, wanted):
        for turned in [apart, [(other, one) for one, other in apart]]:
            content = content_with(turned)
            before = state_of(content)
            if wanted is None:
                with self.assertRaises(NoSpacer):
                    spacer_for(content, i, 3, ware, spacers)
                with self.assertRaises(NoSpacer):
                    sent(content, i, 3, ware, 2, spacers)
            else:
                self.assertEqual(spacer_for(content, i, 3, ware, spacers), wanted)
            self.assertEqual(state_of(content), before)

    def test_the_first_of_the_list(self):
        self.assert_spacer([("x", "u")], 0, "x", ABC, ("a", 1))
        self.assert_spacer([("x", "u")], 0, "x", ABC[::-1], ("c", 3))
        self.assert_spacer([("x", "d")], 1, "x", ABC, ("a", 1))

    def test_the_spacer_and_the_ware_behind(self):
        self.assert_spacer([("x", "u"), ("a", "u")], 0, "x", ABC, ("b", 2))
        self.assert_spacer([("x", "d"), ("a", "d")], 1, "x", ABC, ("b", 2))

    def test_the_ware_and_the_spacer(self):
        self.assert_spacer([("x", "u"), ("a", "x"), ("b", "u")], 0, "x", ABC, ("c", 3))
        self.assert_spacer([("x", "d"), ("a", "x"), ("b", "d")], 1, "x", ABC, ("c", 3))

    def test_the_ware_ahead_and_the_spacer(self):
        self.assert_spacer([("x", "d"), ("u", "a")], 1, "x", ABC, ("b", 2))

    def test_the_ware_ahead_and_the_ware(self):
        self.assert_spacer([("x", "u")], 1, "x", ABC, None)
        self.assert_spacer([("x", "u"), ("x", "d")], 1, "x", ABC, None)

    def test_none_of_them_fits(self):
        self.assert_spacer([("x", "u"), ("a", "x"), ("b", "u"), ("c", "x")], 0, "x", ABC, None)
        self.assert_spacer([("x", "d"), ("a", "x"), ("b", "d"), ("c", "u")], 1, "x", ABC, None)

    def test_no_spacers_at_all(self):
        self.assert_spacer([("x", "u")], 0, "x", [], None)
        self.assert_spacer([("x", "d")], 1, "x", [], None)

    def test_a_spacer_of_the_ware_itself(self):
        self.assert_spacer([("x", "u")], 0, "x", [("x", 4)], None)
        self.assert_spacer([("x", "u")], 0, "x", [("x", 4), ("a", 1)], ("a", 1))
        self.assert_spacer([("x", "d")], 1, "x", [("x", 4)], None)
        self.assert_spacer([("x", "d")], 1, "x", [("x", 4), ("a", 1)], ("a", 1))
        self.assert_spacer([("x", "u")], 1, "x", [("x", 4)], None)

    def test_a_spacer_of_the_ware_behind(self):
        self.assert_spacer([("x", "u")], 0, "x", [("u", 4), ("a", 1)], ("a", 1))
        self.assert_spacer([("x", "d")], 1, "x", [("d", 4), ("a", 1)], ("a", 1))

    def test_a_spacer_of_the_ware_ahead(self):
        self.assert_spacer([("x", "d")], 1, "x", [("u", 4), ("a", 1)], ("u", 4))

    def test_the_volume_comes_along(self):
        self.assert_spacer([("x", "u")], 0, "x", [("a", 10 ** 7), ("a", 1)], ("a", 10 ** 7))

    def test_twenty_spacers(self):
        spacers = [("a", number) for number in range(1, 20)] + [("b", 20)]
        self.assert_spacer([("x", "u"), ("a", "x")], 0, "x", spacers, ("b", 20))
        self.assert_spacer([("x", "u"), ("a", "x")], 0, "x", spacers[:19], None)

    def test_the_ware_that_lies_there_now_counts(self):
        content = pushed(content_with([("x", "u"), ("x", "a")]), 0, 3, "a", 4)[0]
        self.assertEqual(spacer_for(content, 0, 3, "x", [("a", 1), ("b", 2)]), ("b", 2))
        self.assertIsNone(spacer_for(pushed(content, 0, 3, "b", 1)[0], 0, 3, "x", []))


class NoWayAheadOfAll(unittest.TestCase):
    def test_nodes_that_are_no_way(self):
        content = content_with([("x", "u"), ("x", "d"), ("x", "r")])
        before = state_of(content)
        for i, j in [(0, 0), (1, 0), (3, 3), (0, 4), (3, 4), (-1, 2), (2, 1), (-2, -1)]:
            for ware in ["x", "y"]:
                for spacers in [[], ABC]:
                    with self.assertRaises(NoWay):
                        spacer_for(content, i, j, ware, spacers)
                    with self.assertRaises(NoWay):
                        sent(content, i, j, ware, 3, spacers)
        self.assertEqual(state_of(content), before)


class Sent(unittest.TestCase):
    def assert_as_pushes(self, content, i, j, ware, volume, spacers, pushes):
        before = state_of(content)
        later, outs = sent(content, i, j, ware, volume, spacers)
        wanted = content
        wanted_outs = []
        for push in pushes:
            wanted, out, caught = pushed(wanted, i, j, push[0], push[1])
            wanted_outs.append(out)
        self.assertEqual(state_of(later), state_of(wanted))
        self.assertEqual(outs, wanted_outs)
        self.assertEqual(state_of(content), before)

    def test_without_a_spacer(self):
        self.assert_as_pushes(content_with([]), 0, 3, "x", 7, ABC, [("x", 7)])
        self.assert_as_pushes(content_with([("x", "d")]), 0, 3, "x", 7, [], [("x", 7)])

    def test_behind_a_spacer(self):
        self.assert_as_pushes(content_with([("x", "u")]), 0, 3, "x", 7, ABC, [("a", 1), ("x", 7)])
        self.assert_as_pushes(content_with([("x", "d")]), 1, 3, "x", 7, ABC, [("a", 1), ("x", 7)])
        self.assert_as_pushes(content_with([("x", "u")]), 0, 2, "x", 30, [("s", 40)], [("s", 40), ("x", 30)])

    def test_by_hand(self):
        later, outs = sent(content_with([("x", "u")]), 0, 3, "x", 7, [("s", 6)])
        self.assertEqual(stretches(later), [("x", 7), ("s", 6), ("u", 2)])
        self.assertEqual(meetings(later), [(7, 0), (13, 0)])
        self.assertEqual(outs, [
            [("r", 5, (0, 1)), ("d", 1, (1, 1))],
            [("d", 5, (0, 1)), ("u", 2, (2, 1))],
        ])

    def test_no_pig_is_pushed(self):
        self.assertEqual(pigs(sent(content_with([("x", "u")]), 0, 3, "x", 2, ABC)[0]), [])
        riding = pushed(content_with([]), 0, 3, "y", 2, 9)[0]
        self.assertEqual(pigs(sent(riding, 0, 3, "x", 2, ABC)[0]), [(4, 9)])

    def test_spacers_of_the_ware_ahead_leave_it_one_with_them(self):
        later, outs = sent(content_with([("x", "d")]), 1, 3, "x", 2, [("u", 3)])
        self.assertEqual(stretches(later), [("u", 4), ("x", 2), ("u", 3), ("d", 6)])
        self.assertEqual(outs, [[("r", 3, (0, 1))], [("r", 2, (0, 1))]])

    def test_the_spacers_push_is_refused_ahead_of_the_wares(self):
        # The spacer a comes to r at node 2, where the ware x must not come either.
        content = content_with([("x", "u"), ("a", "r"), ("x", "r")])
        before = state_of(content)
        with self.assertRaises(Touch) as caught:
            sent(content, 0, 2, "x", 10, [("a", 10)])
        self.assertEqual(caught.exception.pair, ("a", "r"))
        self.assertEqual(state_of(content), before)

    def test_the_wares_push_is_refused_behind_a_spacer(self):
        content = content_with([("x", "u"), ("x", "r")])
        before = state_of(content)
        with self.assertRaises(Touch) as caught:
            sent(content, 0, 2, "x", 10, [("a", 10)])
        self.assertEqual(caught.exception.pair, ("x", "r"))
        self.assertEqual(state_of(content), before)
        later, outs = sent(content, 0, 2, "x", 9, [("a", 10)])
        self.assertEqual(stretches(later), [("x", 9), ("a", 1), ("r", 5)])

    def test_no_spacer_comes_ahead_of_touch(self):
        # Both the missing spacer and what passes node 2 would refuse it.
        content = content_with([("x", "u"), ("u", "r")])
        with self.assertRaises(NoSpacer):
            sent(content, 0, 2, "x", 10, [])
        with self.assertRaises(Touch):
            sent(content, 0, 2, "x", 10, ABC)

    def test_a_spacer_that_fits_is_not_passed_over_for_what_it_touches_later(self):
        # The first one that may lie between is a, though its push is refused and that of b would not be.
        content = content_with([("x", "u"), ("a", "r")])
        with self.assertRaises(Touch) as caught:
            sent(content, 0, 2, "x", 3, [("a", 10), ("b", 10)])
        self.assertEqual(caught.exception.pair, ("a", "r"))

    def test_great_volumes(self):
        later, outs = sent(content_with([("x", "u")]), 0, 3, "x", 10 ** 7, [("s", 10 ** 7)])
        self.assertEqual(stretches(later), [("x", 15)])
        self.assertEqual(outs[1], [("s", 15, (0, 1)), ("x", 10 ** 7 - 15, (6, 1))])


if __name__ == "__main__":
    unittest.main()
