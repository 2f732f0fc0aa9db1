import unittest

from batchpipe.errors import BadFill, BadRow, Touch
from batchpipe.sheet import answers

# Wherever oil and gas have gone together their half is 1 / 2 at the distance 1 and grows to 5 at 10.
PARTS = [
    "room 10", "table 10 5", "fill oil 10", "source 0 gas 100 10 4", "source 0 wax 100 0 3", "pigs 1 2",
    "tank 1 oil 0 50 2 6", "tank 1 gas 0 20 0 0", "order 1 oil 3 0 9",
]


def asked(rows, parts=None):
    return answers("\n".join((PARTS if parts is None else parts) + rows))


class SheetCase(unittest.TestCase):
    def assert_answers(self, rows, wanted, parts=None):
        self.assertEqual(asked(rows, parts), wanted)


class Deeds(SheetCase):
    def test_a_push_of_what_is_pure(self):
        self.assert_answers(["push 0 1 gas 4"], ["out 0 4 oil 4 oil"])

    def test_a_push_of_what_is_mixed(self):
        # The half is 5: from 5 to 15 it is mixed, 5 of each.
        self.assert_answers(["push 0 1 gas 17"], ["out 0 5 oil 5 oil 5 15 gas 5 oil 5 slop 15 17 gas 2 gas"])
        parts = PARTS + ["bound gas oil 1 2"]
        self.assert_answers(["push 0 1 gas 17"], ["out 0 5 oil 5 oil 5 15 gas 5 oil 5 gas 15 17 gas 2 gas"], parts)

    def test_pure_without_a_tank(self):
        parts = ["room 4", "fill oil 4", "source 0 oil 9 0 1"]
        self.assert_answers(["push 0 1 oil 2", "tanks"], ["out 0 2 oil 2 slop", "slop 1 oil 2"], parts)

    def test_a_push_with_a_pig(self):
        # With the pig the half is 5 / 2.
        self.assert_answers(
            ["push 0 1 gas 3 9", "push 0 1 gas 12 0", "push 0 1 gas 5"],
            ["out 0 3 oil 3 oil", "out 0 9/2 oil 9/2 oil 9/2 19/2 gas 5/2 oil 5/2 slop 19/2 12 gas 5/2 gas pigs 9 0",
             "out 0 5 gas 5 gas"])

    def test_pigs_stand_in_the_order_in_which_they_came(self):
        rows = ["push 0 1 gas 1 30", "push 0 1 gas 1 20", "push 0 1 gas 1 10", "push 0 1 gas 8"]
        self.assertEqual(asked(rows)[3].split(" pigs ")[1], "30 20")

    def test_no_pig_and_pig_0_are_not_the_same(self):
        self.assertTrue(asked(["push 0 1 gas 17 0"])[0].endswith(" pigs 0"))
        self.assertNotIn("pigs", asked(["push 0 1 gas 17"])[0])

    def test_a_wait_answers_the_hour(self):
        self.assert_answers(
            ["wait 3", "push 0 1 gas 5", "wait 10000", "wait 1"],
            ["hour 3", "out 0 5 oil 5 oil", "hour 40017/4", "hour 40021/4"])

    def test_a_take(self):
        self.assert_answers(["push 0 1 gas 4", "wait 6", "take 0"], ["out 0 4 oil 4 oil", "hour 7", "took oil 3"])

    def test_a_take_of_what_was_blended(self):
        parts = PARTS + ["bound oil gas 1 2"]
        # The tank of oil holds 2, 5 and 5, and 5 of gas: a fourth of its 12 goes.
        self.assert_answers(
            ["push 0 1 gas 15", "wait 6", "take 0", "tanks"],
            ["out 0 5 oil 5 oil 5 15 gas 5 oil 5 oil", "hour 39/4", "took gas 15/17 oil 36/17",
             "tank 1 oil gas 70/17 oil 168/17 tank 1 gas"], parts)

    def test_right(self):
        self.assert_answers(
            ["push 0 1 gas 4", "wait 2", "push 0 1 gas 5", "right 0 3", "right 2 5", "right 0 36", "hour"],
            ["out 0 4 oil 4 oil", "hour 3", "out 0 5 oil 5 oil", "right 0", "right", "refused later 0 high", "4"])

    def test_right_tells_several_numbers(self):
        rows = ["push 0 1 gas 4", "wait 2", "push 0 1 gas 12", "push 0 1 gas 1", "right 0 7", "deeds"]
        self.assertEqual(asked(rows)[4:], ["right 0 2", "4"])

    def test_right_puts_a_pigs_push_right(self):
        rows = ["push 0 1 gas 3 9", "right 0 12", "back", "push 0 1 gas 12 9"]
        told = asked(rows)
        self.assertEqual(told[1:3], ["right 0", "back"])
        self.assertTrue(told[3].endswith(" pigs 9"))

    def test_back(self):
        self.assert_answers(
            ["push 0 1 gas 4", "wait 1", "back", "hour", "back", "hour", "deeds"],
            ["out 0 4 oil 4 oil", "hour 2", "back", "1", "back", "0", "0"])


class Refusals(SheetCase):
    def test_each_word_of_a_deed(self):
        parts = [
            "room 4", "room 6", "fill oil 10", "apart tar oil", "source 0 gas 20 10 1", "source 0 tar 20 0 1",
            "source 0 wax 30 0 2", "tank 2 oil 1 9 5 0", "tank 1 oil 0 9 0 30", "order 2 oil 3 1 1",
            "order 2 wax 3 0 1", "order 2 oil 9 0 9", "order 1 oil 2 0 9", "order 2 oil 2 0 0",
        ]
        self.assert_answers(
            ["push 1 1 gas 3", "push 2 1 gas 3", "push 0 3 gas 3", "push 1 2 gas 3", "push 0 2 oil 3", "push 0 2 tar 3",
             "push 0 2 gas 11", "push 0 2 gas 5", "take 5", "take 1", "take 0", "take 2", "push 0 1 gas 3", "take 3",
             "wait 30", "take 4", "take 0", "take 0", "deeds"],
            ["refused way", "refused way", "refused way", "refused source", "refused source", "refused touch",
             "refused low", "refused high", "refused order", "refused tank", "refused early", "refused low",
             "out 0 3 oil 3 oil", "refused settle", "hour 33", "refused late", "took oil 3", "refused order", "3"],
            parts)

    def test_no_deed(self):
        self.assert_answers(
            ["back", "right 0 1", "wait 1", "right 0 1", "right 1 1", "right 999999999 1", "push 0 1 gas 1",
             "right 1 2", "right 2 2"],
            ["refused deed", "refused deed", "hour 1", "refused deed", "refused deed", "refused deed",
             "out 0 1 oil 1 oil", "right 1", "refused deed"])

    def test_a_refused_deed_is_no_deed(self):
        self.assert_answers(
            ["push 0 1 oil 1", "push 0 1 gas 1", "right 0 2", "right 1 2", "deeds"],
            ["refused source", "out 0 1 oil 1 oil", "right 0", "refused deed", "1"])

    def test_a_later_one(self):
        self.assert_answers(
            ["push 0 1 gas 1", "wait 6", "take 0", "push 0 1 gas 60", "right 0 36", "right 0 2", "right 3 61",
             "right 3 89"],
            ["out 0 1 oil 1 oil", "hour 25/4", "took oil 3", "refused high", "refused later 0 high", "right 0",
             "refused deed", "refused deed"])

    def test_a_later_one_that_is_not_the_deed_itself(self):
        self.assert_answers(
            ["push 0 1 gas 2", "wait 6", "take 0", "right 0 1", "back", "take 0", "right 0 1"],
            ["out 0 2 oil 2 oil", "hour 13/2", "took oil 3", "right 0", "back", "took oil 3", "right"])
        parts = [row.replace("50 2 6", "50 1 6") for row in PARTS]
        self.assert_answers(
            ["push 0 1 gas 2", "wait 6", "take 0", "right 0 1", "pipe"],
            ["out 0 2 oil 2 oil", "hour 13/2", "took oil 3", "refused later 2 low",
             "0 1 gas 1 1 3 gas 1 oil 1 3 10 oil 7"],
            parts)

    def test_a_refusal_leaves_all_as_it_was(self):
        rows = ["push 0 1 gas 4", "pipe", "tanks", "hour", "account", "deeds"]
        wanted = asked(rows)
        refused = ["push 0 1 gas 99", "take 7", "right 0 99", "right 4 1"]
        self.assertEqual(asked(rows[:1] + refused + rows[1:])[5:], wanted[1:])


class Questions(SheetCase):
    def test_pipe(self):
        self.assert_answers(["pipe", "push 0 1 gas 4", "pipe"], [
            "0 10 oil 10", "out 0 4 oil 4 oil", "0 2 gas 2 2 6 gas 2 oil 2 6 10 oil 4"])
        self.assert_answers(["push 0 1 gas 3", "pipe"], [
            "out 0 3 oil 3 oil", "0 3/2 gas 3/2 3/2 9/2 gas 3/2 oil 3/2 9/2 10 oil 11/2"])

    def test_pipe_where_nothing_mixes(self):
        parts = ["room 4", "room 1", "fill oil 3", "fill gas 2"]
        self.assert_answers(["pipe"], ["0 3 oil 3 3 5 gas 2"], parts)

    def test_tanks(self):
        self.assert_answers(["tanks"], ["tank 1 oil oil 2 tank 1 gas"])
        self.assert_answers(["push 0 1 gas 17", "tanks"], [
            "out 0 5 oil 5 oil 5 15 gas 5 oil 5 slop 15 17 gas 2 gas",
            "tank 1 oil oil 7 tank 1 gas gas 2 slop 1 gas 5 oil 5"])

    def test_tanks_in_the_order_of_their_rows_and_slops_by_node(self):
        parts = ["room 2", "room 3", "fill oil 5", "source 0 oil 9 0 1", "tank 2 wax 0 9 0 0", "tank 1 wax 0 9 4 0"]
        self.assert_answers(
            ["push 0 2 oil 1", "push 0 1 oil 2", "tanks"],
            ["out 0 1 oil 1 slop", "out 0 2 oil 2 slop", "tank 2 wax tank 1 wax wax 4 slop 1 oil 2 slop 2 oil 1"],
            parts)

    def test_no_tanks_and_no_slops(self):
        self.assert_answers(["tanks", "hour", "tanks"], ["", "0", ""], ["room 4", "fill oil 4"])

    def test_hour(self):
        self.assert_answers(
            ["hour", "wait 2", "hour", "push 0 1 wax 1", "hour", "push 0 1 gas 1", "hour"],
            ["0", "hour 2", "2", "out 0 1 oil 1 oil", "7/3", "out 0 1 oil 1 oil", "31/12"])

    def test_account(self):
        self.assert_answers(["account"], ["gas 0 0 0 0 0 oil 0 10 2 0 0 wax 0 0 0 0 0"])
        rows = ["push 0 1 gas 17", "wait 6", "take 0", "account"]
        self.assertEqual(asked(rows)[3], "gas 17 10 2 5 0 oil 0 0 4 5 3 wax 0 0 0 0 0")
        parts = PARTS + ["bound oil gas 1 2"]
        self.assertEqual(
            asked(["push 0 1 gas 15", "wait 6", "take 0", "account"], parts)[3],
            "gas 15 10 70/17 0 15/17 oil 0 0 168/17 0 36/17 wax 0 0 0 0 0")

    def test_an_account_has_wares_of_orders_too(self):
        parts = ["room 4", "fill oil 4", "order 1 zinc 3 0 0", "tank 1 ale 0 9 7 0"]
        self.assert_answers(["account"], ["ale 0 0 7 0 0 oil 0 4 0 0 0 zinc 0 0 0 0 0"], parts)

    def test_deeds(self):
        self.assert_answers(
            ["deeds", "wait 1", "deeds", "push 0 1 gas 4", "deeds", "take 0", "deeds", "back", "deeds"],
            ["0", "hour 1", "1", "out 0 4 oil 4 oil", "2", "refused settle", "2", "back", "1"])


class TheSheet(SheetCase):
    def test_without_deeds_and_questions(self):
        self.assert_answers([], [])
        self.assertEqual(answers("room 1\nfill a 1\n"), [])

    def test_parts_behind_deeds(self):
        told = asked(["push 0 1 gas 4"])
        self.assertEqual(answers("\n".join(["push 0 1 gas 4"] + PARTS)), told)

    def test_blanks_count_for_nothing(self):
        rows = PARTS + ["push 0 1 gas 17 3", "tanks", "pipe"]
        spread = "\n\n".join("  " + row.replace(" ", "   ") + " " for row in rows) + "\n"
        self.assertEqual(answers(spread), answers("\n".join(rows)))

    def test_refused_as_read_sheet_is(self):
        for rows, number in [(["room 4", "fill oil 4", "pip"], 2), (["fill oil 4"], 1), ([""], 1), (["push"], 0)]:
            with self.assertRaises(BadRow) as caught:
                answers("\n".join(rows))
            self.assertEqual(caught.exception.row, number)
        with self.assertRaises(BadFill):
            answers("room 4\nfill oil 3\npipe")
        with self.assertRaises(Touch) as caught:
            answers("room 4\nfill oil 3\nfill gas 1\napart gas oil\npipe")
        self.assertEqual(caught.exception.pair, ("oil", "gas"))

    def test_a_bad_row_behind_good_ones_refuses_all(self):
        with self.assertRaises(BadRow):
            asked(["push 0 1 gas 4", "pipe", "push 0 1 gas 0"])

    def test_four_hundred_rows(self):
        rows = PARTS + ["push 0 1 gas 1 5", "right 0 2", "back", "wait 1"] * 97 + ["hour", "deeds", "account"]
        self.assertEqual(len(rows), 400)
        told = answers("\n".join(rows))
        self.assertEqual(told[:4], ["out 0 1 oil 1 oil", "right 0", "back", "hour 1"])
        # The first deed is a wait from the second round on.
        self.assertEqual(told[5], "refused deed")
        self.assertEqual(told[-3:], ["97", "97", "gas 0 0 0 0 0 oil 0 10 2 0 0 wax 0 0 0 0 0"])

    def test_many_deeds_put_right(self):
        rows = ["room 1000000", "fill oil 1000000", "source 0 gas 999999999 0 7", "tank 1 oil 0 999999999 0 0"]
        rows += ["push 0 1 gas 10"] * 195 + ["right 0 11"] + ["right 100 9"] * 200
        told = answers("\n".join(rows))
        self.assertEqual(told[:195], ["out 0 10 oil 10 oil"] * 195)
        self.assertEqual(told[195:], ["right 0", "right 100"] + ["right"] * 199)


if __name__ == "__main__":
    unittest.main()
