import unittest

from batchpipe.content import stretches
from batchpipe.errors import BadFill, BadRow, PipeError, Touch
from batchpipe.pipe import Pipe
from batchpipe.rows import read_sheet
from batchpipe.works import Works
from works_state import works_state

BASE = ["room 10", "room 5", "fill oil 15"]
PLAIN = Pipe([10, 5], [], [], [], (1, 1))


def text_of(rows):
    return "\n".join(rows)


def first_bad(rows):
    """The number that BadRow tells, or None where the sheet is not refused with it."""
    try:
        read_sheet(text_of(rows))
    except BadRow as refused:
        return refused.row
    except (BadFill, Touch):
        return None
    return None


class RowsCase(unittest.TestCase):
    def assert_bad(self, rows, number):
        with self.subTest(rows=rows):
            with self.assertRaises(BadRow) as caught:
                read_sheet(text_of(rows))
            self.assertEqual(caught.exception.row, number)
            self.assertIsInstance(caught.exception, PipeError)

    def assert_last_bad(self, rows):
        self.assert_bad(rows, len(rows) - 1)

    def assert_good(self, rows):
        with self.subTest(rows=rows):
            self.assertIsNone(first_bad(rows))

    def assert_tells(self, rows, orders):
        with self.subTest(rows=rows):
            self.assertEqual(read_sheet(text_of(rows))[1], orders)

    def assert_bounds(self, form, good, bad, ahead=()):
        """The row with each of these words in the place of *, behind the base and the rows ahead."""
        for word in good:
            self.assert_good(BASE + list(ahead) + [form.replace("*", word)])
        for word in bad:
            self.assert_last_bad(BASE + list(ahead) + [form.replace("*", word)])


class WhatIsRead(RowsCase):
    def test_each_kind_makes_its_part(self):
        rows = [
            "room 10", "room 5", "table 3 1", "table 12 4", "thick oil gas 3", "thick wax gas 0", "apart tar oil",
            "apart tar gas", "pigs 1 2", "fill oil 4", "fill gas 11", "source 0 gas 90 5 7", "source 1 oil 80 0 1",
            "tank 2 oil 1 99 6 3", "tank 1 oil 0 9 9 1000", "bound oil gas 1 4", "bound gas oil 2 4",
            "order 2 oil 5 0 3", "order 1 gas 5 7 400",
        ]
        works, orders = read_sheet(text_of(rows))
        pipe = Pipe(
            [10, 5], [(3, 1), (12, 4)], [("oil", "gas", 3), ("wax", "gas", 0)], [("tar", "oil"), ("tar", "gas")],
            (1, 2))
        wanted = Works(
            pipe, [("oil", 4), ("gas", 11)], [(0, "gas", 90, 5, 7), (1, "oil", 80, 0, 1)],
            [(2, "oil", 1, 99, 6, 3), (1, "oil", 0, 9, 9, 1000)], [("oil", "gas", (1, 4)), ("gas", "oil", (2, 4))],
            [(2, "oil", 5, 0, 3), (1, "gas", 5, 7, 400)])
        self.assertIsInstance(works, Works)
        self.assertEqual(works_state(works), works_state(wanted))
        self.assertEqual(orders, [])

    def test_the_answer_is_a_tuple_of_a_works_and_a_list_of_tuples(self):
        answer = read_sheet(text_of(BASE + ["pipe"]))
        self.assertIs(type(answer), tuple)
        self.assertEqual(len(answer), 2)
        self.assertEqual(works_state(answer[0]), works_state(Works(PLAIN, [("oil", 15)], [], [], [], [])))
        self.assertEqual(answer[1], [("pipe",)])
        self.assertIs(type(answer[1][0]), tuple)

    def test_deeds_and_questions_in_their_order(self):
        rows = BASE + [
            "push 0 2 oil 5", "push 3 1 gas 10000000 7", "wait 3", "take 0", "right 2 9", "back", "pipe", "tanks",
            "hour", "account", "deeds", "take 999999999", "push 0 2 oil 5",
        ]
        self.assert_tells(rows, [
            ("push", 0, 2, "oil", 5), ("push", 3, 1, "gas", 10000000, 7), ("wait", 3), ("take", 0), ("right", 2, 9),
            ("back",), ("pipe",), ("tanks",), ("hour",), ("account",), ("deeds",), ("take", 999999999),
            ("push", 0, 2, "oil", 5),
        ])

    def test_parts_may_stand_wherever_they_are(self):
        rows = ["pipe", "order 2 oil 3 0 1", "tank 2 oil 0 9 0 0", "source 1 oil 9 0 1", "fill oil 4", "hour",
                "room 10", "back", "fill gas 11", "room 5", "deeds", "pigs 1 3", "table 1 1", "take 0"]
        works, orders = read_sheet(text_of(rows))
        pipe = Pipe([10, 5], [(1, 1)], [], [], (1, 3))
        wanted = Works(
            pipe, [("oil", 4), ("gas", 11)], [(1, "oil", 9, 0, 1)], [(2, "oil", 0, 9, 0, 0)], [], [(2, "oil", 3, 0, 1)])
        self.assertEqual(works_state(works), works_state(wanted))
        self.assertEqual(orders, [("pipe",), ("hour",), ("back",), ("deeds",), ("take", 0)])

    def test_without_a_row_of_pigs(self):
        self.assertEqual(read_sheet(text_of(BASE))[0].pipe.pig, (1, 1))
        self.assertEqual(read_sheet(text_of(BASE + ["pigs 2 4"]))[0].pipe.pig, (2, 4))

    def test_neighbours_of_one_ware_in_the_fill(self):
        works = read_sheet(text_of(["room 9", "fill oil 4", "fill oil 3", "fill gas 2"]))[0]
        self.assertEqual(stretches(works.content), [("oil", 7), ("gas", 2)])

    def test_words_of_rows_may_be_wares(self):
        rows = ["room 9", "fill room 4", "fill fill 5", "push 0 1 pipe 3"]
        works, orders = read_sheet(text_of(rows))
        self.assertEqual(stretches(works.content), [("room", 4), ("fill", 5)])
        self.assertEqual(orders, [("push", 0, 1, "pipe", 3)])


class BlanksAndRowsWithoutWords(RowsCase):
    def test_blanks_at_the_ends_and_many_between(self):
        rows = ["  room 10", "room    5   ", "   fill   oil    15 ", " push  0   2 oil 5      ", "   pipe"]
        self.assert_tells(rows, [("push", 0, 2, "oil", 5), ("pipe",)])

    def test_rows_without_words_are_passed_over_but_counted(self):
        rows = ["", "room 15", "   ", "", "fill oil 15", " ", "pipe", ""]
        self.assert_tells(rows, [("pipe",)])
        self.assert_bad(rows + ["pip"], 8)
        self.assert_bad(["", " "] + ["pip"] + rows, 2)

    def test_a_text_that_ends_with_a_line_end(self):
        self.assertEqual(read_sheet("room 15\nfill oil 15\npipe\n")[1], [("pipe",)])
        self.assertEqual(read_sheet("\n\nroom 15\nfill oil 15\n\n")[1], [])

    def test_a_blank_is_the_only_sign_between_words(self):
        for row in ["wait\t3", "wait,3", "wait-3", "wait3"]:
            self.assert_last_bad(BASE + [row])


class Numbers(RowsCase):
    def test_how_they_are_written(self):
        for word in ["0", "1", "10", "907", "999999999", "100000000"]:
            self.assert_tells(BASE + ["take " + word], [("take", int(word))])
        for word in [
            "00", "01", "007", "1000000000", "0000000001", "+1", "-1", "-0", "1.0", "1/1", "1e3", "x", "1x", "x1",
            "0x1", "1_0", "1,0", "one",
        ]:
            self.assert_last_bad(BASE + ["take " + word])

    def test_very_many_figures(self):
        # More than Python is willing to read as a number.
        for word in ["1" * 10, "1" * 4300, "1" * 4301, "1" * 19000]:
            self.assert_last_bad(BASE + ["take " + word])
            self.assert_last_bad(BASE + ["room " + word])

    def test_in_each_place_of_each_kind(self):
        for row in [
            "room *", "table * 1", "table 1 *", "thick a b *", "pigs * 7", "pigs 0 *", "fill a *", "source * a 5 0 1",
            "source 0 a * 0 1", "source 0 a 5 * 1", "source 0 a 5 0 *", "tank * a 0 9 0 0", "tank 1 a * 9 0 0",
            "tank 1 a 0 * 0 0", "tank 1 a 0 9 * 0", "tank 1 a 0 9 0 *", "bound a b * 2", "bound a b 0 *",
            "order * a 1 0 0", "order 1 a * 0 0", "order 1 a 1 * 9", "order 1 a 1 0 *", "push * 1 a 1", "push 0 * a 1",
            "push 0 1 a *", "push 0 1 a 1 *", "wait *", "take *", "right * 1", "right 0 *",
        ]:
            self.assert_good(BASE + [row.replace("*", "1")])
            for word in ["01", "00", "+1", "-1", "a", "1000000000", "1a"]:
                self.assert_last_bad(BASE + [row.replace("*", word)])


class Wares(RowsCase):
    def test_how_they_are_written(self):
        for word in ["a", "z", "oil", "abcdefgh", "zzzzzzzz"]:
            self.assert_tells(BASE + ["push 0 1 " + word + " 1"], [("push", 0, 1, word, 1)])
        for word in ["abcdefghi", "A", "Oil", "oiL", "o1l", "1", "0", "oil.", "a_b", "a-b", "{", "`"]:
            self.assert_last_bad(BASE + ["push 0 1 " + word + " 1"])

    def test_in_each_place_of_each_kind(self):
        for row in [
            "thick * b 1", "thick b * 1", "apart * b", "apart b *", "fill * 1", "source 0 * 5 0 1", "tank 1 * 0 9 0 0",
            "bound * b 0 1", "bound b * 0 1", "order 1 * 1 0 0", "push 0 1 * 1", "push 0 1 * 1 1",
        ]:
            for word in ["a", "abcdefgh"]:
                self.assert_good(BASE + [row.replace("*", word)])
            for word in ["abcdefghi", "A", "7", "a1"]:
                self.assert_last_bad(BASE + [row.replace("*", word)])


class KindsOfRows(RowsCase):
    def test_rows_that_are_none(self):
        for row in ["x", "rooms 3", "Room 3", "ROOM 3", "3", "room3", "pig 1 2", "deed", "push", "oil", "-", "#",
                    "room: 3", "pushes 0 1 a 1", "tanks2", "0 room"]:
            self.assert_last_bad(BASE + [row])

    def test_a_word_too_few_or_too_many(self):
        for row in [
            "room 1", "table 1 1", "thick a b 1", "apart a b", "pigs 1 1", "fill a 1", "source 0 a 5 0 1",
            "tank 1 a 0 9 0 0", "bound a b 0 1", "order 1 a 1 0 0", "push 0 1 a 1 1", "wait 1", "take 1", "right 0 1",
            "back", "pipe", "tanks", "hour", "account", "deeds",
        ]:
            self.assert_good(BASE + [row])
            self.assert_last_bad(BASE + [row + " 1"])
            self.assert_last_bad(BASE + [row + " a"])
            short = row.rsplit(" ", 1)[0]
            if short != row and short != "push 0 1 a 1":
                self.assert_last_bad(BASE + [short])
        self.assert_good(BASE + ["push 0 1 a 1"])
        self.assert_last_bad(BASE + ["push 0 1 a"])

    def test_words_in_another_order(self):
        for row in ["fill 5 oil", "source a 0 5 0 1", "tank a 1 0 9 0 0", "bound 1 2 a b", "thick a 1 b", "thick 1 a b",
                    "push a 0 1 1", "push 0 a 1 1", "order a 1 1 0 0"]:
            self.assert_last_bad(BASE + [row])


class BoundsOfNumbers(RowsCase):
    def test_room(self):
        self.assert_bounds("room *", ["1", "1000000"], ["0", "1000001"])

    def test_table(self):
        self.assert_bounds("table * 0", ["1", "1000000"], ["0", "1000001"])
        self.assert_bounds("table 1 *", ["0", "1000000"], ["1000001"])

    def test_thick(self):
        self.assert_bounds("thick a b *", ["0", "20"], ["21"])

    def test_pigs(self):
        self.assert_bounds("pigs * 100", ["0", "100"], ["101"])
        self.assert_bounds("pigs 0 *", ["1", "100"], ["0", "101"])
        self.assert_bounds("pigs * 7", ["7"], ["8"])

    def test_fill(self):
        self.assert_bounds("fill a *", ["1", "999999999"], ["0"])

    def test_source(self):
        self.assert_bounds("source * a 5 0 1", ["0", "1"], ["2", "3"])
        self.assert_bounds("source 0 a * 0 1", ["0", "999999999"], ["1000000000"])
        self.assert_bounds("source 0 a 5 * 1", ["0", "5"], ["6"])
        self.assert_bounds("source 0 a 999999999 * 1", ["999999999"], ["1000000000"])
        self.assert_bounds("source 0 a * 5 1", ["5"], ["4"])
        self.assert_bounds("source 0 a 5 0 *", ["1", "1000000"], ["0", "1000001"])

    def test_tank(self):
        self.assert_bounds("tank * a 0 9 0 0", ["1", "2"], ["0", "3"])
        self.assert_bounds("tank 1 a * 9 0 0", ["0", "9"], ["10"])
        self.assert_bounds("tank 1 a 5 * 0 0", ["5", "999999999"], ["4"])
        self.assert_bounds("tank 1 a 0 9 * 0", ["0", "9"], ["10"])
        self.assert_bounds("tank 1 a 0 * 5 0", ["5"], ["4"])
        self.assert_bounds("tank 1 a 0 * 0 0", ["0", "999999999"], ["1000000000"])
        self.assert_bounds("tank 1 a * 999999999 0 0", ["999999999"], ["1000000000"])
        self.assert_bounds("tank 1 a 0 999999999 * 0", ["999999999"], ["1000000000"])
        self.assert_bounds("tank 1 a 0 9 0 *", ["0", "1000"], ["1001"])
        # What it holds at first may be below its low.
        self.assert_good(BASE + ["tank 1 a 5 9 0 0"])

    def test_bound(self):
        self.assert_bounds("bound a b * 1000", ["0", "1000"], ["1001"])
        self.assert_bounds("bound a b 0 *", ["1", "1000"], ["0", "1001"])
        self.assert_bounds("bound a b * 7", ["7"], ["8"])

    def test_order(self):
        self.assert_bounds("order * a 1 0 0", ["1", "2"], ["0", "3"])
        self.assert_bounds("order 1 a * 0 0", ["1", "999999999"], ["0"])
        self.assert_bounds("order 1 a 1 * 400", ["0", "400"], ["401"])
        self.assert_bounds("order 1 a 1 0 *", ["0", "400"], ["401"])
        self.assert_bounds("order 1 a 1 * 7", ["7"], ["8"])

    def test_push(self):
        for form in ["push * 0 a 1", "push 0 * a 1", "push * 0 a 1 1", "push 0 * a 1 1"]:
            self.assert_bounds(form, ["0", "7", "999999999"], ["1000000000"])
        for form in ["push 0 1 a *", "push 0 1 a * 1"]:
            self.assert_bounds(form, ["1", "10000000"], ["0", "10000001"])
        self.assert_bounds("push 0 1 a 1 *", ["0", "1000000"], ["1000001"])

    def test_wait_take_and_right(self):
        self.assert_bounds("wait *", ["1", "10000"], ["0", "10001"])
        self.assert_bounds("take *", ["0", "999999999"], ["1000000000"])
        self.assert_bounds("right * 1", ["0", "999999999"], ["1000000000"])
        self.assert_bounds("right 0 *", ["1", "10000000"], ["0", "10000001"])


class RowsOfOneKind(RowsCase):
    def test_distances_rise(self):
        self.assert_bounds("table * 5", ["8", "1000000"], ["7", "6", "1"], ["table 3 1", "table 7 5"])

    def test_halves_never_fall(self):
        self.assert_bounds("table 8 *", ["5", "6"], ["4", "1", "0"], ["table 3 1", "table 7 5"])

    def test_the_rows_of_a_table_stand_in_their_order_wherever_they_are(self):
        self.assert_good(["table 3 1", "room 4", "pipe", "table 7 1", "fill oil 4"])
        self.assert_bad(["table 7 1", "room 4", "pipe", "table 3 1", "fill oil 4"], 3)

    def test_two_unlike_wares(self):
        for row in ["thick a a 1", "apart a a", "bound a a 1 1"]:
            self.assert_last_bad(BASE + [row])

    def test_a_second_of_the_same_two_wares(self):
        for form in ["thick * 1", "apart *"]:
            ahead = [form.replace("*", "a b"), form.replace("*", "c d")]
            self.assert_bounds(form, ["a c", "d a", "b c"], ["a b", "b a", "c d", "d c"], ahead)
        self.assert_last_bad(BASE + ["thick a b 1", "thick b a 2"])

    def test_thick_and_apart_may_have_the_same_two(self):
        self.assert_good(BASE + ["thick a b 1", "apart a b", "bound a b 1 2", "bound b a 1 2"])

    def test_bounds_in_this_order(self):
        ahead = ["bound a b 1 2", "bound c d 1 2"]
        self.assert_bounds("bound * 1 3", ["b a", "d c", "a c", "c b"], ["a b", "c d"], ahead)

    def test_a_second_row_of_pigs(self):
        self.assert_last_bad(BASE + ["pigs 1 2", "pigs 1 2"])
        self.assert_bad(["pigs 1 2", "pigs 0 1"] + BASE, 1)

    def test_a_second_source_or_tank_of_one_node_and_ware(self):
        self.assert_bounds("source * 9 0 1", ["1 a", "0 b"], ["0 a", "1 c"], ["source 0 a 5 0 2", "source 1 c 5 0 2"])
        self.assert_bounds("tank * 0 9 0 0", ["1 a", "2 b"], ["2 a", "1 c"], ["tank 2 a 0 5 0 0", "tank 1 c 0 5 0 0"])
        self.assert_good(BASE + ["source 1 a 5 0 2", "tank 1 a 0 5 0 0"])

    def test_the_same_order_may_stand_twice(self):
        self.assert_good(BASE + ["order 1 a 1 0 0", "order 1 a 1 0 0"])

    def test_too_many_of_a_kind(self):
        letters = "abcdefghijklmnopqrst"
        pairs = [one + " " + other for one in letters for other in letters if one < other]
        nodes = ["room 1"] * 6
        for ahead, rows in [
            ([], ["room 1"] * 7),
            (BASE, [f"table {k + 1} {k}" for k in range(9)]),
            (BASE, [f"thick {pair} 2" for pair in pairs[:41]]),
            (BASE, [f"apart {pair}" for pair in pairs[:41]]),
            (BASE, ["pigs 1 2", "pigs 1 2"]),
            (["room 9"], ["fill a 1"] * 61),
            (nodes, [f"source {k % 6} {letters[k // 6]} 5 0 1" for k in range(41)]),
            (nodes, [f"tank {k % 6 + 1} {letters[k // 6]} 0 9 0 0" for k in range(41)]),
            (BASE, [f"bound {pair} 1 2" for pair in pairs[:41]]),
            (BASE, ["order 1 a 1 0 0"] * 21),
        ]:
            self.assert_good(ahead + rows[:-1])
            self.assert_last_bad(ahead + rows)
            self.assert_bad(rows[:-1] + ahead + rows[-1:] + ["pipe"], len(rows) + len(ahead) - 1)

    def test_as_many_deeds_and_questions_as_there_are(self):
        self.assert_tells(BASE + ["back"] * 397, [("back",)] * 397)


class Nodes(RowsCase):
    def test_rows_of_rooms_count_wherever_they_stand(self):
        self.assert_good(["source 1 a 5 0 1", "tank 2 a 0 9 0 0", "order 2 a 1 0 0", "room 1", "fill a 2", "room 1"])
        for row in ["source 2 a 5 0 1", "tank 3 a 0 9 0 0", "order 3 a 1 0 0"]:
            self.assert_bad([row, "room 1", "fill a 2", "room 1"], 0)
            self.assert_good([row, "room 1", "fill a 3", "room 1", "room 1"])

    def test_rows_of_rooms_that_are_none_count_too(self):
        self.assert_bad(["source 1 a 5 0 1", "tank 2 a 0 9 0 0", "room 1", "fill a 1", "room 0"], 4)
        self.assert_bad(["source 1 a 5 0 1", "order 2 a 1 0 0", "room 1", "fill a 1", "  room"], 4)
        self.assert_bad(["tank 7 a 0 9 0 0"] + ["room 1"] * 7, 7)
        self.assert_bad(["tank 8 a 0 9 0 0"] + ["room 1"] * 7, 0)

    def test_a_row_that_has_room_as_another_word_does_not_count(self):
        self.assert_bad(["room 5", "fill room 5", "source 1 a 5 0 1"], 2)

    def test_nodes_of_pushes_are_any(self):
        self.assert_good(BASE + ["push 9 4 a 1", "push 2 2 a 1"])


class WithoutARoom(RowsCase):
    def test_the_number_of_rows_is_told(self):
        self.assert_bad(["fill oil 5"], 1)
        self.assert_bad(["pipe", "", "fill oil 5", "back"], 4)
        self.assert_bad(["pipe", ""], 2)

    def test_the_empty_text_has_one_row_without_words(self):
        self.assert_bad([""], 1)
        self.assert_bad(["", ""], 2)
        self.assert_bad(["   "], 1)

    def test_a_row_that_is_none_comes_first(self):
        self.assert_bad(["pipe", "pip", "fill oil 5"], 1)
        self.assert_bad(["pipe", "source 0 a 5 0 1"], 1)
        self.assert_bad(["tank 1 a 0 9 0 0"], 0)
        self.assert_bad(["order 1 a 1 0 0"], 0)

    def test_it_comes_ahead_of_the_fill(self):
        self.assert_bad(["fill oil 5", "fill gas 5", "apart oil gas"], 3)


class WhichRefusalComesFirst(RowsCase):
    def test_the_first_row(self):
        self.assert_bad(BASE + ["pipe", "wait 0", "take x", "zzz"], 4)
        self.assert_bad(["room 0", "zzz"], 0)

    def test_rows_ahead_of_the_fill(self):
        self.assert_bad(["room 10", "fill oil 5", "zzz"], 2)
        self.assert_bad(["room 10", "fill oil 5", "fill gas 5", "apart gas oil", "wait 0"], 4)

    def test_the_fill(self):
        for rows in [["room 10"], ["room 10", "fill oil 9"], ["fill oil 11", "room 10"],
                     ["room 10", "fill oil 5", "fill gas 6", "apart gas oil"]]:
            with self.assertRaises(BadFill):
                read_sheet(text_of(rows))

    def test_wares_that_must_not_touch(self):
        rows = ["apart gas oil", "apart wax gas", "room 10", "fill tar 1", "fill gas 4", "fill wax 1", "fill oil 4"]
        with self.assertRaises(Touch) as caught:
            read_sheet(text_of(rows))
        self.assertEqual(caught.exception.pair, ("gas", "wax"))

    def test_a_row_that_would_be_good_elsewhere(self):
        good = ["room 4", "table 3 2", "table 5 2", "fill oil 4"]
        self.assert_good(good)
        self.assert_bad([good[0], good[2], good[1], good[3]], 2)
        self.assert_bad(["room 4", "fill oil 4", "thick a b 1", "back", "thick b a 1"], 4)


if __name__ == "__main__":
    unittest.main()
