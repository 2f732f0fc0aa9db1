"""A works in use, all that can be read and asked of one, and whether lists are one and the same."""
import copy
import unittest

from batchpipe.errors import BadDeed
from batchpipe.pipe import Pipe
from batchpipe.works import Works, do_deed, like
from spoiling import lists_in
from works_state import works_state

FILL = [("oil", 5), ("oil", 3), ("gas", 7)]
SOURCES = [(0, "oil", 400, 10, 4), (0, "gas", 400, 10, 7), (1, "wax", 300, 0, 3)]
TANKS = [(2, "gas", 0, 100, 5, 0), (2, "oil", 0, 100, 0, 0), (1, "gas", 0, 70, 7, 2)]
BOUNDS = [("gas", "oil", (1, 2)), ("oil", "gas", (1, 9))]
ORDERS = [(2, "gas", 8, 0, 9), (2, "oil", 2, 0, 9), (1, "gas", 1, 0, 9)]
DEEDS = [
    ("push", 0, 2, "gas", 11, 4), ("push", 1, 2, "wax", 9, None), ("take", 0), ("wait", 5),
    ("push", 0, 1, "oil", 13, 2), ("wait", 2), ("take", 2), ("push", 0, 2, "oil", 31, None), ("take", 1),
]
LATER = [
    ("push", 0, 2, "gas", 20, 1), ("wait", 7), ("push", 1, 2, "wax", 3, None), ("push", 0, 1, "tar", 3, None),
    ("take", 0), ("take", 1), ("take", 2), ("push", 0, 2, "oil", 999, None), ("push", 0, 2, "gas", 30, 1),
]


def a_pipe():
    return Pipe([10, 5], [(5, 2), (15, 4)], [("gas", "oil", 2)], [("tar", "oil")], (1, 2))


def works_behind(count):
    works = Works(a_pipe(), list(FILL), list(SOURCES), list(TANKS), list(BOUNDS), list(ORDERS))
    for deed in DEEDS[:count]:
        do_deed(works, deed)
    return works


def all_of(works):
    """All that can be read and asked of a works."""
    answers = [works_state(works)]
    tried = like(works)
    for deed in LATER:
        try:
            answers.append(do_deed(tried, deed))
        except BadDeed as refused:
            answers.append(refused.word)
        answers.append(works_state(tried))
    return copy.deepcopy(answers)


def lists_of_works(works):
    """All lists that a works' fields hold."""
    answers = [works.sources, works.tanks, works.slops, works.bounds, works.orders, works.taken]
    answers.extend(tank.holds for node, tank in works.tanks)
    for pipe in [works.pipe, works.content.pipe]:
        answers.extend([pipe.rooms, pipe.table, pipe.thick, pipe.apart])
    return lists_in(tuple(answers))


class OwnCase(unittest.TestCase):
    def assert_all_own(self, lists):
        self.assertEqual(len({id(part) for part in lists}), len(lists))
