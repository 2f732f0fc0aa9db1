import inspect
import unittest

from batchpipe.content import Content, meetings, pigs, stretches, ware_at
from batchpipe.errors import BadFill, Touch
from batchpipe.pipe import Pipe, place_of

APART = [("milk", "oil"), ("gas", "tar")]


def a_pipe(rooms=(4, 6), apart=APART):
    return Pipe(list(rooms), [(10, 2)], [], list(apart), (1, 2))


class WhatLies(unittest.TestCase):
    def test_the_arguments_have_their_names(self):
        self.assertEqual(list(inspect.signature(Content).parameters), ["pipe", "fill"])
        content = Content(pipe=a_pipe(), fill=[("oil", 10)])
        self.assertEqual(stretches(content=content), [("oil", 10)])
        self.assertEqual(ware_at(content=content, place=3), "oil")

    def test_one_stretch(self):
        content = Content(a_pipe(), [("oil", 10)])
        self.assertEqual((stretches(content), meetings(content), pigs(content)), ([("oil", 10)], [], []))

    def test_some_stretches(self):
        content = Content(a_pipe(), [("oil", 3), ("gas", 1), ("oil", 6)])
        self.assertEqual(stretches(content), [("oil", 3), ("gas", 1), ("oil", 6)])
        self.assertEqual(meetings(content), [(3, 3), (4, 4)])
        self.assertEqual(pigs(content), [])

    def test_neighbours_of_one_ware_are_one_stretch(self):
        content = Content(a_pipe(), [("oil", 1), ("oil", 2), ("gas", 1), ("gas", 1), ("gas", 2), ("oil", 3)])
        self.assertEqual(stretches(content), [("oil", 3), ("gas", 4), ("oil", 3)])
        self.assertEqual(meetings(content), [(3, 3), (7, 7)])
        self.assertEqual(stretches(Content(a_pipe(), [("oil", 1)] * 10)), [("oil", 10)])

    def test_the_least_pipe(self):
        content = Content(a_pipe(rooms=[1]), [("a", 1)])
        self.assertEqual((stretches(content), meetings(content), ware_at(content, 0)), ([("a", 1)], [], "a"))

    def test_the_greatest_pipe_and_the_longest_fill(self):
        fill = [("oil" if k % 2 == 0 else "gas", 10 ** 5) for k in range(60)]
        content = Content(a_pipe(rooms=[10 ** 6] * 6), fill)
        self.assertEqual(stretches(content), fill)
        self.assertEqual(meetings(content), [(k * 10 ** 5, k * 10 ** 5) for k in range(1, 60)])
        self.assertEqual(ware_at(content, 6 * 10 ** 6 - 1), "gas")

    def test_a_fill_somewhat_beyond_the_bound_is_not_refused(self):
        fill = [("oil" if k % 2 == 0 else "gas", 1) for k in range(70)]
        self.assertEqual(stretches(Content(a_pipe(rooms=[70]), fill)), fill)

    def test_the_ware_behind_each_place(self):
        content = Content(a_pipe(), [("oil", 3), ("gas", 1), ("wax", 6)])
        answers = [ware_at(content, place) for place in range(10)]
        self.assertEqual(answers, ["oil"] * 3 + ["gas"] + ["wax"] * 6)

    def test_kinds(self):
        content = Content(a_pipe(), [("oil", 3), ("gas", 7)])
        for answer in [stretches(content), meetings(content), pigs(content)]:
            self.assertIs(type(answer), list)
            for pair in answer:
                self.assertIs(type(pair), tuple)
        self.assertIs(type(content.pipe), Pipe)
        self.assertIs(type(ware_at(content, 0)), str)


class OwnPipe(unittest.TestCase):
    def test_it_is_like_the_one_handed_in(self):
        pipe = Pipe([4, 6], [(10, 2)], [("oil", "gas", 2)], list(APART), (50, 100))
        own = Content(pipe, [("oil", 10)]).pipe
        self.assertIsNot(own, pipe)
        self.assertEqual(own.rooms, [4, 6])
        self.assertEqual(own.table, [(10, 2)])
        self.assertEqual(own.thick, [("oil", "gas", 2)])
        self.assertEqual(own.apart, APART)
        self.assertEqual(own.pig, (50, 100))
        self.assertEqual(place_of(own, 2), 10)

    def test_two_contents_have_two_pipes(self):
        pipe = a_pipe()
        one, other = Content(pipe, [("oil", 10)]), Content(pipe, [("oil", 10)])
        self.assertIsNot(one.pipe, other.pipe)
        self.assertIsNot(one.pipe.rooms, other.pipe.rooms)


class Refusals(unittest.TestCase):
    def assert_touch(self, fill, pair, pipe=None):
        with self.assertRaises(Touch) as caught:
            Content(pipe or a_pipe(), fill)
        self.assertEqual(caught.exception.pair, pair)
        self.assertIs(type(caught.exception.pair), tuple)

    def test_volumes_that_are_not_as_much_as_the_pipe_holds(self):
        for fill in [[("oil", 9)], [("oil", 11)], [("oil", 4)], [("oil", 4), ("gas", 5)], [("oil", 4), ("gas", 7)]]:
            with self.subTest(fill=fill), self.assertRaises(BadFill):
                Content(a_pipe(), fill)

    def test_no_fill_at_all(self):
        with self.assertRaises(BadFill):
            Content(a_pipe(), [])

    def test_neighbours_that_must_not_touch(self):
        self.assert_touch([("milk", 5), ("oil", 5)], ("milk", "oil"))
        self.assert_touch([("gas", 2), ("milk", 2), ("oil", 6)], ("milk", "oil"))

    def test_the_one_nearer_to_the_head_stands_first_however_the_pipe_tells_them(self):
        self.assert_touch([("oil", 5), ("milk", 5)], ("oil", "milk"))
        self.assert_touch([("tar", 5), ("gas", 5)], ("tar", "gas"))

    def test_the_first_two_from_the_head_on(self):
        self.assert_touch([("wax", 1), ("tar", 2), ("gas", 2), ("oil", 2), ("milk", 3)], ("tar", "gas"))
        self.assert_touch([("wax", 1), ("oil", 2), ("milk", 2), ("gas", 2), ("tar", 3)], ("oil", "milk"))

    def test_behind_neighbours_of_one_ware(self):
        self.assert_touch([("milk", 2), ("milk", 3), ("oil", 1), ("oil", 4)], ("milk", "oil"))

    def test_wares_that_others_part_may_lie_there(self):
        content = Content(a_pipe(), [("milk", 4), ("wax", 1), ("oil", 5)])
        self.assertEqual(stretches(content), [("milk", 4), ("wax", 1), ("oil", 5)])

    def test_bad_fill_comes_ahead_of_touch(self):
        for fill in [[("milk", 5), ("oil", 4)], [("milk", 5), ("oil", 6)]]:
            with self.assertRaises(BadFill):
                Content(a_pipe(), fill)

    def test_what_was_handed_in_stays_where_it_is_refused(self):
        for fill in [[("milk", 5), ("oil", 5)], [("milk", 5), ("oil", 4)]]:
            pipe, kept = a_pipe(), list(fill)
            with self.assertRaises((BadFill, Touch)):
                Content(pipe, fill)
            self.assertEqual(fill, kept)
            self.assertEqual((pipe.rooms, pipe.apart), ([4, 6], APART))


if __name__ == "__main__":
    unittest.main()
