"""All that a book tells, as plain values of the tests' own."""
import copy

from works_state import works_state


def book_state(book):
    return copy.deepcopy((works_state(book.works()), book.deeds(), book.told()))
