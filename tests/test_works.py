import inspect
import unittest

from batchpipe.content import Content, meetings, pigs, stretches
from batchpipe.errors import BadDeed, BadFill, Touch
from batchpipe.pipe import Pipe
from batchpipe.pushing import pushed
from batchpipe.tanks import Tank
from batchpipe.works import Works, account_of, do_deed, like
from works_state import content_state, pipe_fields, tank_fields, works_state

FILL = [("oil", 5), ("oil", 2), ("gas", 8)]
SOURCES = [(0, "oil", 100, 10, 4), (1, "gas", 50, 0, 3), (0, "gas", 40, 40, 7)]
TANKS = [(2, "gas", 1, 100, 5, 3), (2, "oil", 0, 50, 0, 1), (1, "gas", 0, 7, 7, 2)]
BOUNDS = [("gas", "oil", (2, 8)), ("oil", "gas", (0, 1))]
ORDERS = [(2, "gas", 8, 0, 1), (1, "oil", 3, 0, 3), (2, "gas", 1, 0, 0)]


def a_pipe(apart=()):
    return Pipe([10, 5], [(5, 2), (15, 4)], [("gas", "oil", 2)], list(apart), (1, 2))


def a_works():
    return Works(a_pipe(), list(FILL), list(SOURCES), list(TANKS), list(BOUNDS), list(ORDERS))


class Interface(unittest.TestCase):
    def test_the_arguments_have_their_names(self):
        for what, names in [
            (Works, ["pipe", "fill", "sources", "tanks", "bounds", "orders"]), (like, ["works"]),
            (do_deed, ["works", "deed"]), (account_of, ["works"]),
        ]:
            self.assertEqual(list(inspect.signature(what).parameters), names)
        works = Works(pipe=a_pipe(), fill=FILL, sources=SOURCES, tanks=TANKS, bounds=BOUNDS, orders=ORDERS)
        self.assertEqual(works_state(works), works_state(a_works()))
        self.assertEqual(do_deed(works=works, deed=("wait", 2)), ("wait",))
        self.assertEqual(like(works=works).hour, (2, 1))
        self.assertEqual(account_of(works=works), account_of(works))

    def test_kinds(self):
        works = a_works()
        do_deed(works, ("push", 0, 2, "oil", 12, None))
        do_deed(works, ("push", 0, 1, "oil", 9, 3))
        for made in [works, like(works)]:
            self.assertIs(type(made), Works)
            self.assertIs(type(made.pipe), Pipe)
            self.assertIs(type(made.content), Content)
            self.assertIs(type(made.hour), tuple)
            for field in [made.sources, made.tanks, made.slops, made.bounds, made.orders, made.taken]:
                self.assertIs(type(field), list)
            for row in made.sources + made.tanks + made.slops + made.bounds + made.orders:
                self.assertIs(type(row), tuple)
            for node, tank in made.tanks:
                self.assertIs(type(tank), Tank)
            for node, shares in made.slops:
                self.assertIs(type(shares), list)
            for row in account_of(made):
                self.assertIs(type(row), tuple)
                self.assertEqual(len(row), 6)


class AtFirst(unittest.TestCase):
    def test_fields(self):
        works = a_works()
        self.assertEqual(pipe_fields(works.pipe), pipe_fields(a_pipe()))
        self.assertEqual(content_state(works.content), content_state(Content(a_pipe(), FILL)))
        self.assertEqual(works.hour, (0, 1))
        self.assertEqual(works.sources, SOURCES)
        wanted = [
            (node, tank_fields(Tank(ware, low, high, start, settle)))
            for node, ware, low, high, start, settle in TANKS
        ]
        self.assertEqual([(node, tank_fields(tank)) for node, tank in works.tanks], wanted)
        self.assertEqual(works.slops, [])
        self.assertEqual(works.bounds, BOUNDS)
        self.assertEqual(works.orders, ORDERS)
        self.assertEqual(works.taken, [])

    def test_its_pipe_is_one_of_its_own(self):
        pipe = a_pipe()
        works = Works(pipe, FILL, SOURCES, TANKS, BOUNDS, ORDERS)
        self.assertIsNot(works.pipe, pipe)
        self.assertIsNot(works.content.pipe, pipe)

    def test_nothing_but_a_pipe_and_a_fill(self):
        works = Works(a_pipe(), FILL, [], [], [], [])
        self.assertEqual((works.sources, works.tanks, works.bounds, works.orders), ([], [], [], []))

    def test_the_most_of_all(self):
        pipe = Pipe([10 ** 6] * 6, [], [], [], (1, 1))
        wares = [chr(97 + number) for number in range(20)]
        fill = [(wares[number % 20], 10 ** 5) for number in range(60)]
        sources = [(node, ware, 10 ** 9, 0, 10 ** 6) for node in (0, 5) for ware in wares]
        tanks = [(node, ware, 0, 10 ** 9, 10 ** 9, 1000) for node in (1, 6) for ware in wares]
        bounds = [("a", ware, (1000, 1000)) for ware in wares[1:]] + [("b", ware, (0, 1000)) for ware in wares[2:]]
        orders = [(6, ware, 10 ** 9, 400, 400) for ware in wares]
        works = Works(pipe, fill, sources, tanks, bounds, orders)
        self.assertEqual((works.sources, works.bounds, works.orders), (sources, bounds, orders))
        self.assertEqual(len(works.tanks), 40)
        self.assertEqual(works_state(like(works)), works_state(works))


class Refused(unittest.TestCase):
    def test_a_fill_that_is_too_little_or_too_much(self):
        for fill in [[("oil", 14)], [("oil", 16)], [("oil", 5), ("gas", 9)]]:
            with self.assertRaises(BadFill):
                Works(a_pipe(), fill, SOURCES, TANKS, BOUNDS, ORDERS)

    def test_neighbours_that_must_not_touch(self):
        with self.assertRaises(Touch) as caught:
            Works(a_pipe([("wax", "oil"), ("gas", "oil")]), FILL, SOURCES, TANKS, BOUNDS, ORDERS)
        self.assertEqual(caught.exception.pair, ("oil", "gas"))

    def test_a_bad_fill_comes_first(self):
        with self.assertRaises(BadFill):
            Works(a_pipe([("gas", "oil")]), [("oil", 5), ("gas", 9)], SOURCES, TANKS, BOUNDS, ORDERS)


class ContentOfAWorks(unittest.TestCase):
    def test_another_one_behind_each_push(self):
        works = a_works()
        first = works.content
        before = content_state(first)
        do_deed(works, ("push", 0, 2, "oil", 2, 7))
        second = works.content
        self.assertIsNot(second, first)
        self.assertEqual(content_state(first), before)
        self.assertEqual(content_state(second), content_state(pushed(first, 0, 2, "oil", 2, 7)[0]))
        between = content_state(second)
        do_deed(works, ("push", 1, 2, "gas", 1, None))
        self.assertEqual((content_state(first), content_state(second)), (before, between))
        self.assertEqual(content_state(works.content), content_state(pushed(second, 1, 2, "gas", 1)[0]))

    def test_other_deeds_leave_what_lies_in_the_pipe(self):
        works = a_works()
        before = content_state(works.content)
        do_deed(works, ("wait", 5))
        do_deed(works, ("take", 2))
        self.assertEqual(content_state(works.content), before)

    def test_it_goes_on_from_what_the_last_push_left(self):
        works = a_works()
        do_deed(works, ("push", 0, 2, "oil", 2, 7))
        self.assertEqual(stretches(works.content), [("oil", 9), ("gas", 6)])
        self.assertEqual(meetings(works.content), [(9, 7)])
        self.assertEqual(pigs(works.content), [(2, 7)])


class Like(unittest.TestCase):
    def deeds(self):
        return [
            ("push", 0, 2, "oil", 12, 5), ("wait", 3), ("take", 0), ("push", 1, 2, "gas", 4, None),
            ("push", 0, 1, "oil", 9, 3), ("wait", 1), ("take", 2), ("push", 0, 2, "oil", 20, None),
        ]

    def test_the_same_in_all_at_each_time(self):
        works = a_works()
        for deed in self.deeds():
            same = like(works)
            self.assertIsNot(same, works)
            self.assertEqual(works_state(same), works_state(works))
            self.assertEqual(do_deed(same, deed), do_deed(works, deed))
            self.assertEqual(works_state(same), works_state(works))
        self.assertEqual(len(works.taken), 2)

    def test_the_same_deeds_are_refused(self):
        works = a_works()
        for deed in self.deeds():
            do_deed(works, deed)
        same = like(works)
        for deed in [("take", 2), ("push", 0, 2, "gas", 1, None), ("take", 1), ("push", 0, 2, "oil", 80, None)]:
            words = []
            for one in [works, same]:
                with self.assertRaises(BadDeed) as caught:
                    do_deed(one, deed)
                words.append(caught.exception.word)
            self.assertEqual(words[0], words[1])

    def test_each_goes_its_own_way(self):
        works = a_works()
        do_deed(works, ("push", 0, 2, "oil", 12, 5))
        same = like(works)
        before = works_state(works)
        for deed in self.deeds()[1:]:
            do_deed(same, deed)
        self.assertEqual(works_state(works), before)
        again = like(works)
        after = works_state(same)
        for deed in [("push", 0, 2, "oil", 1, None), ("wait", 77)]:
            do_deed(works, deed)
        self.assertEqual((works_state(again), works_state(same)), (before, after))

    def test_its_parts_are_its_own(self):
        works = a_works()
        do_deed(works, ("push", 0, 2, "oil", 12, 5))
        do_deed(works, ("push", 0, 1, "oil", 9, 3))
        same = like(works)
        self.assertNotEqual(works.slops, [])
        self.assertIsNot(same.pipe, works.pipe)
        self.assertIsNot(same.content, works.content)
        for (node, one), (other, two) in zip(works.tanks, same.tanks):
            self.assertIsNot(one, two)
            self.assertIsNot(one.holds, two.holds)
        for (node, one), (other, two) in zip(works.slops, same.slops):
            self.assertIsNot(one, two)


if __name__ == "__main__":
    unittest.main()
