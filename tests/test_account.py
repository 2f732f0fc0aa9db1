import unittest
from fractions import Fraction

from batchpipe.errors import BadDeed
from batchpipe.pipe import Pipe
from batchpipe.works import Works, account_of, do_deed, like
from works_state import works_state

NOUGHT = (0, 1)


def a_works():
    pipe = Pipe([10, 10], [(1, 2)], [], [], (0, 1))
    return Works(
        pipe, [("oil", 12), ("wax", 8)],
        [(0, "gas", 1000, 0, 4), (1, "gas", 500, 0, 3), (0, "zinc", 9, 0, 3)],
        [(2, "oil", 0, 900, 10, 0), (2, "gas", 0, 900, 7, 0), (1, "tar", 0, 900, 0, 0), (1, "gas", 0, 900, 3, 0)],
        [("oil", "gas", (1, 2)), ("milk", "oil", (1, 2))],
        [(2, "oil", 13, 0, 9), (2, "ale", 5, 0, 9), (2, "gas", 4, 0, 9)],
    )


def row_of(works, ware):
    return [row[1:] for row in account_of(works) if row[0] == ware][0]


class Rows(unittest.TestCase):
    def test_at_first(self):
        self.assertEqual(account_of(a_works()), [
            ("ale", NOUGHT, NOUGHT, NOUGHT, NOUGHT, NOUGHT),
            ("gas", NOUGHT, NOUGHT, (10, 1), NOUGHT, NOUGHT),
            ("oil", NOUGHT, (12, 1), (10, 1), NOUGHT, NOUGHT),
            ("tar", NOUGHT, NOUGHT, NOUGHT, NOUGHT, NOUGHT),
            ("wax", NOUGHT, (8, 1), NOUGHT, NOUGHT, NOUGHT),
            ("zinc", NOUGHT, NOUGHT, NOUGHT, NOUGHT, NOUGHT),
        ])

    def test_wares_of_bounds_alone_have_no_row(self):
        self.assertNotIn("milk", [row[0] for row in account_of(a_works())])

    def test_one_that_is_in_the_fill_alone_keeps_its_row(self):
        works = a_works()
        do_deed(works, ("push", 0, 2, "gas", 40, None))
        self.assertEqual(row_of(works, "wax"), (NOUGHT, NOUGHT, NOUGHT, (8, 1), NOUGHT))

    def test_behind_deeds(self):
        works = a_works()
        do_deed(works, ("push", 0, 2, "gas", 22, None))
        # 6 of wax, 2 of wax and 2 of oil, 8 of oil, 2 of oil and 2 of gas came out.
        self.assertEqual(row_of(works, "gas"), ((22, 1), (20, 1), (12, 1), NOUGHT, NOUGHT))
        self.assertEqual(row_of(works, "oil"), (NOUGHT, NOUGHT, (20, 1), (2, 1), NOUGHT))
        self.assertEqual(row_of(works, "wax"), (NOUGHT, NOUGHT, NOUGHT, (8, 1), NOUGHT))
        do_deed(works, ("push", 1, 2, "gas", 3, None))
        self.assertEqual(row_of(works, "gas"), ((25, 1), (20, 1), (15, 1), NOUGHT, NOUGHT))
        do_deed(works, ("take", 0))
        # The tank of oil held 20 of oil and 2 of gas.
        self.assertEqual(row_of(works, "oil"), (NOUGHT, NOUGHT, (90, 11), (2, 1), (130, 11)))
        self.assertEqual(row_of(works, "gas"), ((25, 1), (20, 1), (152, 11), NOUGHT, (13, 11)))
        do_deed(works, ("take", 2))
        self.assertEqual(row_of(works, "gas"), ((25, 1), (20, 1), (108, 11), NOUGHT, (57, 11)))
        do_deed(works, ("wait", 3))
        self.assertEqual(row_of(works, "gas"), ((25, 1), (20, 1), (108, 11), NOUGHT, (57, 11)))

    def test_slops_of_several_nodes(self):
        works = a_works()
        do_deed(works, ("push", 0, 1, "zinc", 3, None))
        do_deed(works, ("push", 0, 2, "gas", 9, None))
        # 3 of oil at node 1; 6 of wax, and 2 of it with 1 of oil at node 2.
        self.assertEqual(row_of(works, "oil"), (NOUGHT, (8, 1), (10, 1), (4, 1), NOUGHT))
        self.assertEqual(row_of(works, "wax"), (NOUGHT, NOUGHT, NOUGHT, (8, 1), NOUGHT))

    def test_a_refused_deed_gives_nothing(self):
        works = a_works()
        before = account_of(works)
        for deed in [("push", 0, 2, "gas", 1001, None), ("push", 0, 2, "gas", 990, None), ("take", 1), ("take", 9)]:
            with self.assertRaises(BadDeed):
                do_deed(works, deed)
            self.assertEqual(account_of(works), before)

    def test_of_a_works_that_is_like_it(self):
        works = a_works()
        do_deed(works, ("push", 0, 2, "gas", 40, None))
        do_deed(works, ("take", 0))
        same = like(works)
        self.assertEqual(account_of(same), account_of(works))
        do_deed(same, ("take", 2))
        self.assertNotEqual(account_of(same), account_of(works))
        self.assertEqual(row_of(like(same), "gas"), row_of(same, "gas"))

    def test_it_changes_nothing(self):
        works = a_works()
        do_deed(works, ("push", 0, 2, "gas", 40, None))
        before = works_state(works)
        account_of(works)
        self.assertEqual(works_state(works), before)


class Sums(unittest.TestCase):
    def assert_balanced(self, works, first):
        for ware, given, piped, tanked, slopped, handed in account_of(works):
            there = sum(Fraction(*side) for side in [piped, tanked, slopped, handed])
            self.assertEqual(Fraction(*given) + first[ware], there)

    def test_all_is_accounted_for_at_each_time(self):
        works = a_works()
        first = {row[0]: Fraction(*row[2]) + Fraction(*row[3]) for row in account_of(works)}
        self.assert_balanced(works, first)
        for deed in [
            ("push", 0, 2, "gas", 7, 1), ("push", 0, 1, "zinc", 5, None), ("push", 1, 2, "gas", 14, None), ("take", 0),
            ("wait", 9), ("push", 0, 2, "gas", 33, 2), ("take", 2), ("push", 0, 2, "zinc", 4, None),
        ]:
            do_deed(works, deed)
            self.assert_balanced(works, first)


if __name__ == "__main__":
    unittest.main()
