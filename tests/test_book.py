import unittest

from batchpipe.book import Book
from batchpipe.content import stretches
from batchpipe.errors import BadDeed, BadLater, NoDeed, PipeError
from batchpipe.pipe import Pipe
from batchpipe.works import Works, account_of, do_deed
from book_state import book_state
from works_state import works_state

PUSH = ("push", 0, 1, "gas", 4, None)
MORE = ("push", 0, 1, "gas", 9, 7)
OIL_4 = [((0, 1), (4, 1), [("oil", (4, 1))])]


def a_works(orders=((1, "oil", 4, 0, 9),), high=100, level=50, settle=0, apart=(), low=0):
    """A pipe of 10, full of oil, in which nothing mixes."""
    pipe = Pipe([10], [], [], list(apart), (1, 1))
    sources = [(0, "gas", level, 5, 2), (0, "wax", 50, 0, 2)]
    return Works(pipe, [("oil", 10)], sources, [(1, "oil", low, high, 1, settle), (1, "gas", 0, 100, 0, 0)], [], orders)


def book_with(deeds, works=None):
    book = Book(a_works() if works is None else works)
    for deed in deeds:
        book.add(deed)
    return book


class BookCase(unittest.TestCase):
    def assert_like_one_with(self, book, deeds, works=None):
        """The book is in all that it tells what one is to which these deeds are added from the beginning."""
        self.assertEqual(book_state(book), book_state(book_with(deeds, works)))
        self.assertEqual(book.deeds(), deeds)

    def assert_refused(self, book, refusal, ask, **fields):
        before = book_state(book)
        with self.assertRaises(refusal) as caught:
            ask()
        self.assertIsInstance(caught.exception, PipeError)
        for name, worth in fields.items():
            self.assertEqual(getattr(caught.exception, name), worth)
        self.assertEqual(book_state(book), before)


class Adding(BookCase):
    def test_a_new_book(self):
        book = Book(a_works())
        self.assertEqual((book.deeds(), book.told()), ([], []))
        self.assertEqual(works_state(book.works()), works_state(a_works()))

    def test_what_is_added_is_done_and_told(self):
        book, works = Book(a_works()), a_works()
        deeds = [PUSH, ("wait", 3), ("take", 0), MORE]
        told = [do_deed(works, deed) for deed in deeds]
        self.assertEqual([book.add(deed) for deed in deeds], told)
        self.assertEqual(told[:3], [("push", OIL_4, ["oil"], []), ("wait",), ("take", [("oil", (4, 1))])])
        self.assertEqual((book.deeds(), book.told()), (deeds, told))
        self.assertEqual(works_state(book.works()), works_state(works))
        self.assertEqual(book.works().hour, (19, 2))

    def test_the_works_handed_in_stays(self):
        works = a_works()
        book_with([PUSH, ("take", 0)], works)
        self.assertEqual(works_state(works), works_state(a_works()))

    def test_a_book_of_a_works_in_use(self):
        works = a_works()
        do_deed(works, PUSH)
        do_deed(works, ("take", 0))
        book = Book(works)
        self.assertEqual((book.deeds(), book.told()), ([], []))
        self.assertEqual(works_state(book.works()), works_state(works))
        self.assert_refused(book, BadDeed, lambda: book.add(("take", 0)), word="order")
        self.assert_refused(book, NoDeed, book.taken_back)
        book.add(MORE)
        do_deed(works, MORE)
        self.assertEqual(works_state(book.works()), works_state(works))

    def test_refused_as_do_deed_is(self):
        works = a_works([(1, "oil", 4, 1, 9), (1, "wax", 1, 0, 9), (1, "oil", 9, 0, 9)], high=8, apart=[("wax", "oil")])
        book = book_with([PUSH], works)
        for deed, word in [
            (("push", 1, 0, "gas", 4, None), "way"), (("push", 0, 2, "gas", 4, None), "way"),
            (("push", 0, 1, "oil", 4, None), "source"), (("push", 0, 1, "gas", 42, None), "low"),
            (("push", 0, 1, "gas", 4, None), "high"), (("take", 3), "order"), (("take", -1), "order"),
            (("take", 1), "tank"), (("take", 0), "early"), (("take", 2), "low"),
        ]:
            with self.subTest(deed=deed):
                self.assert_refused(book, BadDeed, lambda: book.add(deed), word=word)
        self.assert_refused(Book(works), BadDeed, lambda: Book(works).add(("push", 0, 1, "wax", 4, None)), word="touch")
        self.assert_like_one_with(book, [PUSH], works)

    def test_a_book_goes_on_behind_a_refusal(self):
        book = book_with([PUSH])
        self.assert_refused(book, BadDeed, lambda: book.add(("take", 5)), word="order")
        book.add(("take", 0))
        self.assert_like_one_with(book, [PUSH, ("take", 0)])

    def test_two_books_of_one_works(self):
        works = a_works()
        one, other = Book(works), Book(works)
        one.add(PUSH)
        self.assertEqual(book_state(other), book_state(Book(a_works())))


class PutRight(BookCase):
    def test_a_push_of_another_volume(self):
        book = book_with([PUSH])
        self.assertEqual(book.put_right(0, 6), [0])
        self.assert_like_one_with(book, [("push", 0, 1, "gas", 6, None)])
        self.assertEqual(book.told(), [("push", [((0, 1), (6, 1), [("oil", (6, 1))])], ["oil"], [])])
        self.assertEqual(stretches(book.works().content), [("gas", 6), ("oil", 4)])
        self.assertEqual(book.works().hour, (3, 1))

    def test_its_pig_and_its_ways_stay(self):
        book = book_with([MORE, PUSH])
        self.assertEqual(book.told()[1][3], [7])
        self.assertEqual(book.put_right(0, 3), [0, 1])
        self.assert_like_one_with(book, [("push", 0, 1, "gas", 3, 7), PUSH])
        self.assertEqual(book.told()[1][3], [])

    def test_the_volume_that_it_had(self):
        deeds = [PUSH, ("wait", 2), MORE, ("take", 0)]
        book = book_with(deeds)
        self.assertEqual(book.put_right(2, 9), [])
        self.assertEqual(book.put_right(0, 4), [])
        self.assert_like_one_with(book, deeds)

    def test_deeds_behind_that_tell_the_same_are_left_out(self):
        book = book_with([PUSH, ("wait", 2), ("push", 0, 1, "gas", 1, None), ("take", 0), MORE])
        # With 5 in the place of 4, oil still comes out next, as much as before; the last push meets less of it.
        self.assertEqual(book.put_right(0, 5), [0, 4])
        self.assert_like_one_with(
            book, [("push", 0, 1, "gas", 5, None), ("wait", 2), ("push", 0, 1, "gas", 1, None), ("take", 0), MORE])

    def test_deeds_ahead_tell_the_same(self):
        book = book_with([PUSH, ("wait", 1), MORE, MORE])
        self.assertEqual(book.put_right(2, 2), [2, 3])
        self.assertEqual(book.put_right(3, 8), [3])
        self.assert_like_one_with(
            book, [PUSH, ("wait", 1), ("push", 0, 1, "gas", 2, 7), ("push", 0, 1, "gas", 8, 7)])

    def test_a_taking_that_tells_something_else(self):
        # Wherever oil and gas have gone together there is 1 of each mixed, which the tank of oil takes.
        pipe = Pipe([10], [(1, 1)], [], [], (1, 1))
        orders = [(1, "oil", 3, 0, 9), (1, "oil", 1, 0, 9)]
        works = Works(
            pipe, [("oil", 10)], [(0, "gas", 50, 5, 2)], [(1, "oil", 0, 100, 1, 0)], [("oil", "gas", (1, 2))], orders)
        book = book_with([("push", 0, 1, "gas", 9, None), ("take", 0), ("push", 0, 1, "gas", 12, None)], works)
        self.assertEqual(book.put_right(0, 11), [0, 1, 2])
        self.assertEqual(book.told()[1], ("take", [("gas", (1, 4)), ("oil", (11, 4))]))
        self.assert_like_one_with(
            book, [("push", 0, 1, "gas", 11, None), ("take", 0), ("push", 0, 1, "gas", 12, None)], works)

    def test_several_times_and_added_to_behind(self):
        book = book_with([PUSH, MORE])
        self.assertEqual(book.put_right(1, 2), [1])
        self.assertEqual(book.put_right(0, 1), [0])
        book.add(("take", 0))
        self.assertEqual(book.put_right(1, 3), [1])
        self.assert_like_one_with(
            book, [("push", 0, 1, "gas", 1, None), ("push", 0, 1, "gas", 3, 7), ("take", 0)])

    def test_there_and_back_again(self):
        book = book_with([PUSH, MORE, ("take", 0)])
        before = book_state(book)
        self.assertEqual(book.put_right(0, 5), [0, 1])
        self.assertEqual(book.put_right(0, 4), [0, 1])
        self.assertEqual(book_state(book), before)

    def test_the_account_stays_true(self):
        book = book_with([PUSH, MORE, ("take", 0)])
        book.put_right(1, 30)
        self.assertEqual(account_of(book.works()), [
            ("gas", (34, 1), (10, 1), (24, 1), (0, 1), (0, 1)), ("oil", (0, 1), (0, 1), (7, 1), (0, 1), (4, 1)),
            ("wax", (0, 1), (0, 1), (0, 1), (0, 1), (0, 1)),
        ])


class PutRightRefused(BookCase):
    def test_no_such_number(self):
        book = book_with([PUSH, MORE])
        for k in [-1, -2, 2, 3, 10 ** 30, -(10 ** 30)]:
            with self.subTest(k=k):
                self.assert_refused(book, NoDeed, lambda: book.put_right(k, 1))

    def test_an_empty_book(self):
        book = Book(a_works())
        for k in [-1, 0, 1]:
            self.assert_refused(book, NoDeed, lambda: book.put_right(k, 1))

    def test_a_wait_or_a_taking(self):
        book = book_with([PUSH, ("wait", 2), ("take", 0)])
        for k in [1, 2]:
            self.assert_refused(book, NoDeed, lambda: book.put_right(k, 2))
        self.assertEqual(book.put_right(0, 3), [0])

    def test_the_deed_itself_is_refused(self):
        book = book_with([("wait", 1), PUSH, MORE])
        self.assert_refused(book, BadLater, lambda: book.put_right(1, 46), place=1, word="low")
        full = book_with([("wait", 1), PUSH], a_works(high=9))
        self.assert_refused(full, BadLater, lambda: full.put_right(1, 9), place=1, word="high")
        self.assertEqual(full.put_right(1, 8), [1])

    def test_a_later_one_is_refused(self):
        # 45 can be given: 4 and 9, then 32.
        deeds = [PUSH, ("wait", 1), MORE, ("push", 0, 1, "gas", 32, None), ("wait", 2)]
        book = book_with(deeds)
        self.assert_refused(book, BadLater, lambda: book.put_right(0, 5), place=3, word="low")
        self.assert_refused(book, BadLater, lambda: book.put_right(0, 38), place=2, word="low")
        self.assert_refused(book, BadLater, lambda: book.put_right(3, 33), place=3, word="low")
        self.assert_like_one_with(book, deeds)
        # The last push meets nothing but gas either way.
        self.assertEqual(book.put_right(0, 3), [0, 2])

    def test_a_taking_is_refused(self):
        deeds = [PUSH, ("take", 0), ("wait", 5)]
        book = book_with(deeds)
        self.assertEqual(book.put_right(0, 3), [0])
        self.assert_refused(book, BadLater, lambda: book.put_right(0, 2), place=1, word="low")
        late = book_with([PUSH, ("wait", 20), ("take", 0)], a_works([(1, "oil", 1, 0, 0)]))
        self.assert_refused(late, BadLater, lambda: late.put_right(0, 9), place=2, word="late")
        self.assertEqual(late.put_right(0, 8), [0])
        early = book_with([("push", 0, 1, "gas", 8, None), ("wait", 20), ("take", 0)], a_works([(1, "oil", 1, 1, 1)]))
        self.assert_refused(early, BadLater, lambda: early.put_right(0, 7), place=2, word="early")

    def test_a_tank_that_has_not_settled(self):
        # The last of the oil came out in the first push, or with 9 in the second, at hour 5; the take is at 17 / 2.
        orders = [(1, "oil", 1, 0, 9)]
        deeds = [("push", 0, 1, "gas", 11, None), ("push", 0, 1, "gas", 8, None), ("take", 0)]
        book = book_with(deeds, a_works(orders, settle=4))
        self.assert_refused(book, BadLater, lambda: book.put_right(0, 9), place=2, word="settle")
        self.assertEqual(book.put_right(0, 10), [0])

    def test_wares_that_touch_then(self):
        works = Works(
            Pipe([4, 6], [], [], [("wax", "oil")], (1, 1)), [("oil", 4), ("gas", 6)],
            [(0, "gas", 90, 0, 1), (1, "wax", 90, 0, 1)], [], [], [])
        book = book_with([("push", 0, 2, "gas", 8, None), ("push", 1, 2, "wax", 2, None)], works)
        for volume in [3, 4]:
            self.assert_refused(book, BadLater, lambda: book.put_right(0, volume), place=1, word="touch")
        self.assertEqual(book.put_right(0, 7), [0])

    def test_which_refusal_comes_first(self):
        # No deed of this number is a push, whatever would come of the others.
        book = book_with([PUSH, ("take", 0)])
        self.assert_refused(book, NoDeed, lambda: book.put_right(1, 10 ** 7))
        # Of two that would be refused the first one is told.
        orders = [(1, "oil", 4, 0, 9), (1, "oil", 1, 0, 9)]
        two = book_with([PUSH, ("take", 0), ("take", 1)], a_works(orders))
        self.assert_refused(two, BadLater, lambda: two.put_right(0, 1), place=1, word="low")
        self.assert_refused(two, BadLater, lambda: two.put_right(0, 3), place=2, word="low")

    def test_a_book_goes_on_behind_a_refusal(self):
        book = book_with([PUSH, ("take", 0)])
        self.assert_refused(book, BadLater, lambda: book.put_right(0, 1), place=1, word="low")
        book.add(MORE)
        self.assert_like_one_with(book, [PUSH, ("take", 0), MORE])


class TakenBack(BookCase):
    def test_the_only_deed(self):
        book = book_with([PUSH])
        self.assertIsNone(book.taken_back())
        self.assertEqual(book_state(book), book_state(Book(a_works())))

    def test_and_again(self):
        book = book_with([PUSH])
        book.taken_back()
        self.assert_refused(book, NoDeed, book.taken_back)
        self.assert_refused(book, NoDeed, book.taken_back)
        book.add(PUSH)
        self.assert_like_one_with(book, [PUSH])

    def test_a_new_book_has_none(self):
        book = Book(a_works())
        self.assert_refused(book, NoDeed, book.taken_back)

    def test_each_kind_of_deed(self):
        deeds = [PUSH, ("wait", 3), ("take", 0), MORE]
        book = book_with(deeds)
        for count in [3, 2, 1, 0]:
            self.assertIsNone(book.taken_back())
            self.assert_like_one_with(book, deeds[:count])

    def test_an_order_may_be_taken_again(self):
        book = book_with([PUSH, ("take", 0)])
        book.taken_back()
        self.assertEqual(book.works().taken, [])
        self.assertEqual(book.add(("take", 0)), ("take", [("oil", (4, 1))]))

    def test_behind_a_reading_put_right(self):
        book = book_with([PUSH, MORE])
        book.put_right(0, 5)
        book.taken_back()
        self.assert_like_one_with(book, [("push", 0, 1, "gas", 5, None)])
        book.put_right(0, 2)
        book.taken_back()
        self.assertEqual(book_state(book), book_state(Book(a_works())))

    def test_a_reading_put_right_behind_it(self):
        book = book_with([PUSH, MORE, ("take", 0)])
        book.taken_back()
        self.assertEqual(book.put_right(0, 2), [0, 1])
        self.assert_like_one_with(book, [("push", 0, 1, "gas", 2, None), MORE])
        self.assert_refused(book, NoDeed, lambda: book.put_right(2, 1))


if __name__ == "__main__":
    unittest.main()
