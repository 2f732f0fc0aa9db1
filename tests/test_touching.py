import inspect
import unittest

from batchpipe.content import Content, meetings, stretches
from batchpipe.errors import NoWay, Touch
from batchpipe.pipe import Pipe
from batchpipe.pushing import pushed
from batchpipe.touching import first_touch

# Nodes at the places 0, 4, 10, 15.
FILL = [("u", 4), ("d", 2), ("m", 1), ("e", 3), ("r", 5)]


def content_with(apart, fill=FILL, rooms=(4, 6, 5)):
    return Content(Pipe(list(rooms), [], [], list(apart), (1, 1)), list(fill))


class TouchCase(unittest.TestCase):
    def assert_pair(self, content, push, pair):
        before = (stretches(content), meetings(content))
        self.assertEqual(first_touch(content, *push), pair)
        if pair is None:
            pushed(content, *push)
        else:
            with self.assertRaises(Touch) as caught:
                pushed(content, *push)
            self.assertEqual(caught.exception.pair, pair)
            self.assertIs(type(caught.exception.pair), tuple)
            self.assertIs(type(first_touch(content, *push)), tuple)
        self.assertEqual((stretches(content), meetings(content)), before)


class AtTheBeginning(TouchCase):
    def test_the_arguments_have_their_names(self):
        self.assertEqual(list(inspect.signature(first_touch).parameters), ["content", "i", "j", "ware", "volume"])
        self.assertIsNone(first_touch(content=content_with([]), i=0, j=1, ware="x", volume=3))

    def test_none_where_all_may_touch(self):
        for i, j in [(0, 1), (0, 2), (0, 3), (1, 2), (1, 3), (2, 3)]:
            self.assert_pair(content_with([]), (i, j, "x", 100), None)

    def test_the_ware_ahead_and_what_is_pushed_in(self):
        self.assert_pair(content_with([("u", "x")]), (1, 3, "x", 1), ("u", "x"))
        self.assert_pair(content_with([("x", "u")]), (1, 2, "x", 1), ("u", "x"))

    def test_what_is_pushed_in_and_the_ware_behind(self):
        self.assert_pair(content_with([("d", "x")]), (1, 3, "x", 1), ("x", "d"))
        self.assert_pair(content_with([("u", "x")]), (0, 3, "x", 1), ("x", "u"))

    def test_the_one_ahead_comes_first(self):
        self.assert_pair(content_with([("x", "d"), ("u", "x")]), (1, 3, "x", 1), ("u", "x"))
        self.assert_pair(content_with([("x", "d"), ("u", "x"), ("m", "r")]), (1, 2, "x", 99), ("u", "x"))

    def test_at_the_head_nothing_lies_ahead(self):
        self.assert_pair(content_with([("r", "x")]), (0, 3, "x", 1), None)

    def test_a_meeting_at_the_node_and_none(self):
        content = content_with([("g", "x")], fill=[("g", 15)])
        self.assert_pair(content, (1, 2, "x", 1), ("g", "x"))
        self.assert_pair(content, (0, 3, "x", 1), ("x", "g"))
        self.assert_pair(content, (1, 2, "g", 1), None)

    def test_what_lies_farther_off_does_not_touch(self):
        self.assert_pair(content_with([("x", "m"), ("x", "e"), ("x", "r")]), (1, 3, "x", 5), None)


class AtTheNodeWhereItComesOut(TouchCase):
    def test_stretches_that_pass_as_far_as_they_come(self):
        # The row is x, d 2, m 1, e 3: m comes to the node when e's 3 have come out.
        content = content_with([("m", "r")])
        self.assert_pair(content, (1, 2, "x", 2), None)
        self.assert_pair(content, (1, 2, "x", 3), ("m", "r"))
        self.assert_pair(content, (1, 2, "x", 4), ("m", "r"))
        self.assert_pair(content, (1, 2, "x", 99), ("m", "r"))

    def test_the_next_one(self):
        content = content_with([("r", "d")])
        self.assert_pair(content, (1, 2, "x", 3), None)
        self.assert_pair(content, (1, 2, "x", 4), ("d", "r"))
        self.assert_pair(content, (1, 2, "x", 5), ("d", "r"))

    def test_what_is_pushed_in_itself(self):
        content = content_with([("r", "x")])
        self.assert_pair(content, (1, 2, "x", 5), None)
        self.assert_pair(content, (1, 2, "x", 6), ("x", "r"))
        self.assert_pair(content, (1, 2, "x", 10 ** 7), ("x", "r"))

    def test_in_the_order_in_which_they_come(self):
        content = content_with([("x", "r"), ("d", "r"), ("m", "r")])
        self.assert_pair(content, (1, 2, "x", 2), None)
        self.assert_pair(content, (1, 2, "x", 99), ("m", "r"))
        self.assert_pair(content_with([("x", "r"), ("d", "r")]), (1, 2, "x", 99), ("d", "r"))

    def test_the_beginning_comes_ahead_of_it(self):
        self.assert_pair(content_with([("m", "r"), ("x", "d")]), (1, 2, "x", 99), ("x", "d"))

    def test_at_the_end_nothing_lies_behind(self):
        content = content_with([("m", "r"), ("d", "r"), ("u", "r"), ("x", "r")])
        self.assert_pair(content, (0, 3, "x", 10 ** 7), None)
        self.assert_pair(content, (1, 3, "x", 10 ** 7), None)

    def test_what_is_pushed_in_is_one_with_what_lay_there(self):
        # The row is d 2 + volume, m 1, e 3.
        content = content_with([("d", "r")])
        self.assert_pair(content, (1, 2, "d", 3), None)
        self.assert_pair(content, (1, 2, "d", 4), ("d", "r"))

    def test_one_that_lay_there_before_does_not_begin_to_touch(self):
        content = content_with([], fill=[("g", 10), ("r", 5)])
        self.assert_pair(content, (0, 2, "g", 40), None)
        self.assert_pair(content, (0, 2, "x", 40), None)

    def test_it_is_the_ware_straight_behind_the_node(self):
        content = content_with([("m", "far")], fill=[("u", 4), ("d", 2), ("m", 1), ("e", 3), ("r", 1), ("far", 4)])
        self.assert_pair(content, (1, 2, "x", 99), None)
        content = content_with([("u", "e")])
        self.assert_pair(content, (0, 1, "x", 3), None)

    def test_from_the_head_to_the_first_node(self):
        # The row is x, u 4, and straight behind the node lies d.
        content = content_with([("x", "d")])
        self.assert_pair(content, (0, 1, "x", 3), None)
        self.assert_pair(content, (0, 1, "x", 4), ("x", "d"))


class InNoContent(TouchCase):
    def test_a_refused_push_comes_of_the_way_first(self):
        content = content_with([("u", "x"), ("x", "d")])
        for i, j in [(1, 1), (2, 1), (-1, 2), (1, 4), (3, 4), (3, 3)]:
            with self.assertRaises(NoWay):
                pushed(content, i, j, "x", 1)

    def test_it_is_asked_of_pushed_contents_too(self):
        content = content_with([("x", "y")])
        later = pushed(content, 1, 3, "x", 3)[0]
        self.assert_pair(later, (1, 3, "y", 1), ("y", "x"))
        self.assert_pair(later, (1, 3, "z", 1), None)
        self.assert_pair(pushed(later, 1, 3, "z", 1)[0], (1, 3, "y", 1), None)


if __name__ == "__main__":
    unittest.main()
