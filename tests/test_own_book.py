"""Of plans, books and sheets: nothing that is handed in is changed, and all that is told is the asker's own."""
import copy
import unittest

from batchpipe.book import Book
from batchpipe.errors import BadDeed, BadLater, NoDeed, NoPlan
from batchpipe.pipe import Pipe
from batchpipe.plans import planned, shape_done
from batchpipe.rows import read_sheet
from batchpipe.sheet import answers
from batchpipe.works import Works, account_of, do_deed
from book_state import book_state
from own_works import DEEDS, OwnCase, all_of, lists_of_works, works_behind
from spoiling import lists_in, replace_works_fields, spoil, spoil_works
from works_state import works_state

CHANGES = [spoil_works, replace_works_fields]
MORE = ("push", 0, 2, "gas", 3, 8)


def book_behind(count):
    book = Book(works_behind(0))
    for deed in DEEDS[:count]:
        book.add(deed)
    return book


def all_of_book(book):
    """All that a book tells, and all that can be asked of its works."""
    return copy.deepcopy((book_state(book), all_of(book.works())))


class HandedInToABook(OwnCase):
    def test_a_works_is_not_changed(self):
        for count in [0, 4]:
            works = works_behind(count)
            before = all_of(works)
            book = Book(works)
            for deed in DEEDS[count:]:
                book.add(deed)
            book.put_right(len(book.deeds()) - 2, 29)
            book.taken_back()
            self.assertEqual(all_of(works), before)

    def test_a_works_may_be_changed_behind(self):
        for change in CHANGES:
            for count in [0, 4]:
                works = works_behind(count)
                book, other = Book(works), Book(works)
                other.add(DEEDS[count])
                before, more = all_of_book(book), all_of_book(other)
                change(works)
                self.assertEqual((all_of_book(book), all_of_book(other)), (before, more))
                book.add(DEEDS[count])
                self.assertEqual(all_of_book(book), more)
                other.taken_back()
                self.assertEqual(all_of_book(other), before)

    def test_deeds_done_with_the_works_are_not_in_the_book(self):
        works = works_behind(0)
        book = Book(works)
        do_deed(works, DEEDS[0])
        self.assertEqual(book_state(book), book_state(book_behind(0)))


class ToldByABook(OwnCase):
    def test_works_told_may_be_changed(self):
        for change in CHANGES:
            book = book_behind(5)
            before = all_of_book(book)
            one, other = book.works(), book.works()
            change(one)
            self.assertEqual(works_state(other), before[0][0])
            do_deed(other, MORE)
            self.assertEqual(all_of_book(book), before)
            book.add(DEEDS[5])
            self.assertEqual(all_of_book(book), all_of_book(book_behind(6)))
            book.put_right(4, 12)
            book.taken_back()
            book.put_right(4, DEEDS[4][4])
            self.assertEqual(all_of_book(book), before)

    def test_a_works_told_stays_when_the_book_goes_on(self):
        book = book_behind(5)
        works = book.works()
        before = all_of(works)
        book.add(DEEDS[5])
        book.put_right(0, 12)
        book.taken_back()
        self.assertEqual(all_of(works), before)

    def test_no_two_lists_are_one_and_the_same(self):
        book = Book(works_behind(0))
        told = [book.add(deed) for deed in DEEDS]
        answers_told = (told, book.told(), book.told(), book.deeds(), book.deeds(), book.put_right(0, 12),
                        book.told(), book.put_right(1, 8), book.told())
        works = [book.works(), book.works()]
        self.assert_all_own(lists_in(answers_told) + lists_of_works(works[0]) + lists_of_works(works[1]))

    def test_what_was_told_may_be_changed(self):
        book = Book(works_behind(0))
        for number, deed in enumerate(DEEDS):
            spoil(book.add(deed))
            for told in [book.told(), book.deeds()]:
                spoil(told)
            self.assertEqual(all_of_book(book), all_of_book(book_behind(number + 1)))
        other = book_behind(len(DEEDS))
        for volume in [12, 11, 13]:
            changed = book.put_right(0, volume)
            self.assertEqual(changed, other.put_right(0, volume))
            self.assertEqual(changed, [0, 1, 2])
            spoil(changed)
            self.assertEqual(all_of_book(book), all_of_book(other))

    def test_what_was_told_stays_when_the_book_goes_on(self):
        book = book_behind(5)
        told, deeds = book.told(), book.deeds()
        kept = copy.deepcopy((told, deeds))
        book.add(DEEDS[5])
        changed = book.put_right(4, 12)
        kept_numbers = list(changed)
        book.put_right(4, 11)
        book.taken_back()
        self.assertEqual((told, deeds), kept)
        self.assertEqual(changed, kept_numbers)

    def test_what_was_told_may_be_handed_in(self):
        book = book_behind(5)
        again = Book(book.works())
        self.assertEqual(all_of(again.works()), all_of(book.works()))
        third = Book(works_behind(0))
        for deed in book.deeds():
            third.add(deed)
        self.assertEqual(all_of_book(third), all_of_book(book))

    def test_a_refused_call_leaves_all_as_it_was(self):
        book = book_behind(len(DEEDS))
        before = all_of_book(book)
        for refusal, ask in [
            (BadDeed, lambda: book.add(("push", 0, 3, "oil", 3, None))),
            (BadDeed, lambda: book.add(("push", 0, 2, "gas", 300, 8))),
            (BadDeed, lambda: book.add(("take", 0))),
            (NoDeed, lambda: book.put_right(-1, 5)),
            (NoDeed, lambda: book.put_right(len(DEEDS), 5)),
            (NoDeed, lambda: book.put_right(2, 5)),
            (BadLater, lambda: book.put_right(0, 400)),
            (BadLater, lambda: book.put_right(4, 390)),
        ]:
            with self.assertRaises(refusal):
                ask()
            self.assertEqual(all_of_book(book), before)
        book.taken_back()
        self.assertEqual(all_of_book(book), all_of_book(book_behind(len(DEEDS) - 1)))

    def test_two_books_keep_to_themselves(self):
        one, other = book_behind(3), book_behind(3)
        one.put_right(0, 12)
        one.taken_back()
        self.assertEqual(all_of_book(other), all_of_book(book_behind(3)))


class Plans(OwnCase):
    BATCHES = [("gas", 20), ("oil", 25), ("wax", 12)]
    SPACERS = [("wax", 2), ("gas", 3)]

    def works(self):
        pipe = Pipe([10, 5], [(5, 2), (15, 4)], [("gas", "oil", 2)], [("gas", "oil")], (1, 2))
        sources = [(0, "oil", 400, 10, 4), (0, "gas", 400, 10, 7), (0, "wax", 300, 0, 3)]
        tanks = [(2, "gas", 0, 100, 5, 9), (2, "oil", 0, 100, 0, 3)]
        orders = [(2, "gas", 3, 0, 9), (2, "oil", 2, 1, 9)]
        return Works(pipe, [("oil", 15)], sources, tanks, [("oil", "wax", (1, 3))], orders)

    def ask_all(self, works, batches, spacers):
        return [planned(works, batches, spacers), shape_done(works, batches, spacers, [1, 2, 0])]

    def test_nothing_handed_in_is_changed(self):
        works, batches, spacers, numbers = self.works(), list(self.BATCHES), list(self.SPACERS), [1, 2, 0]
        before = all_of(works)
        fields = [works.content, works.sources, works.tanks, works.slops, works.taken]
        self.assertIsNotNone(shape_done(works, batches, spacers, numbers))
        planned(works, batches, spacers)
        self.assertIsNone(shape_done(works, batches + [("zinc", 3)], spacers, [0, 1, 2, 3]))
        with self.assertRaises(NoPlan):
            planned(works, batches + [("zinc", 3)], spacers)
        self.assertEqual(all_of(works), before)
        for one, other in zip(fields, [works.content, works.sources, works.tanks, works.slops, works.taken]):
            self.assertIs(one, other)
        self.assertEqual((batches, spacers, numbers), (self.BATCHES, self.SPACERS, [1, 2, 0]))

    def test_what_is_told_may_be_changed(self):
        works = self.works()
        told = self.ask_all(works, self.BATCHES, self.SPACERS)
        kept = copy.deepcopy(told)
        again = self.ask_all(works, self.BATCHES, self.SPACERS)
        self.assert_all_own(lists_in((told, again)))
        spoil(told)
        self.assertEqual((again, self.ask_all(works, self.BATCHES, self.SPACERS)), (kept, kept))

    def test_what_was_handed_in_may_be_changed(self):
        for change in CHANGES:
            works, batches, spacers = self.works(), list(self.BATCHES), list(self.SPACERS)
            told = self.ask_all(works, batches, spacers)
            kept = copy.deepcopy(told)
            change(works)
            batches.clear()
            spacers.clear()
            self.assertEqual(told, kept)

    def test_the_deeds_of_a_plan_may_be_handed_in(self):
        works = self.works()
        numbers, waste, deeds = planned(works, self.BATCHES, self.SPACERS)
        self.assertEqual(shape_done(works, self.BATCHES, self.SPACERS, numbers), (waste, deeds))
        book = Book(works)
        for deed in deeds:
            book.add(deed)
        self.assertEqual(sorted(book.works().taken), [0, 1])

    def test_a_works_told_by_a_book_may_be_planned_with(self):
        book = Book(self.works())
        book.add(("push", 0, 2, "wax", 4, None))
        before = book_state(book)
        works = book.works()
        plan = planned(works, self.BATCHES, self.SPACERS)
        for deed in plan[2]:
            do_deed(works, deed)
        self.assertEqual(book_state(book), before)


class Sheets(OwnCase):
    TEXT = "\n".join([
        "room 10", "room 5", "table 5 2", "thick gas oil 2", "apart tar oil", "fill oil 15", "source 0 gas 99 0 2",
        "tank 2 oil 0 99 3 0", "bound oil gas 1 2", "order 2 oil 2 0 3", "push 0 2 gas 18 4", "take 0", "tanks", "pipe",
    ])

    def test_what_is_read_may_be_changed(self):
        for change in CHANGES:
            one, other = read_sheet(self.TEXT), read_sheet(self.TEXT)
            kept = (all_of(other[0]), list(other[1]))
            self.assert_all_own(
                lists_of_works(one[0]) + lists_of_works(other[0]) + lists_in((one[1], other[1])))
            change(one[0])
            spoil(one[1])
            self.assertEqual((all_of(other[0]), other[1]), kept)
            third = read_sheet(self.TEXT)
            self.assertEqual((all_of(third[0]), third[1]), kept)

    def test_a_works_that_was_read_may_be_handed_in(self):
        works, orders = read_sheet(self.TEXT)
        book = Book(works)
        book.add(orders[0])
        do_deed(works, orders[0])
        self.assertEqual(account_of(book.works()), account_of(works))

    def test_answers_may_be_changed(self):
        one, other = answers(self.TEXT), answers(self.TEXT)
        kept = list(other)
        one.clear()
        self.assertEqual((other, answers(self.TEXT)), (kept, kept))
        self.assertEqual([type(text) for text in kept], [str] * 4)


if __name__ == "__main__":
    unittest.main()
