"""Holds sheets against the slow reading and the slow answers, over many drawn texts."""
import random
import re
import unittest
from fractions import Fraction

from batchpipe.errors import BadFill, BadRow, Touch
from batchpipe.rows import read_sheet
from batchpipe.sheet import answers
from batchpipe.works import Works
from drawing import WARES, drawn_bounds, drawn_deed, drawn_orders, drawn_pipe_and_fill, drawn_sources, drawn_tanks
from drawing import pipe_of
from slow_sheet import SlowBadFill, SlowBadRow, SlowFillTouch, slow_answers, slow_read
from works_state import works_state

QUESTIONS = ["pipe", "tanks", "hour", "account", "deeds"]


def row_of(*words):
    return " ".join(str(word) for word in words)


def rows_of_parts(fields, fill, sources, tanks, bounds, orders):
    rooms, table, thick, apart, pig = fields
    kinds = [
        [row_of("room", room) for room in rooms], [row_of("table", *row) for row in table],
        [row_of("thick", *row) for row in thick], [row_of("apart", *row) for row in apart],
        [row_of("pigs", *pig)] if pig != (1, 1) else [], [row_of("fill", *row) for row in fill],
        [row_of("source", *row) for row in sources], [row_of("tank", *row) for row in tanks],
        [row_of("bound", ware, other, *part) for ware, other, part in bounds],
        [row_of("order", *row) for row in orders],
    ]
    return kinds


def drawn_order(draw, fields, sources, count):
    """A row of the second kind."""
    kind = draw.choice(["deed"] * 8 + ["right"] * 3 + ["back"] + ["question"] * 5)
    if kind == "right":
        return row_of("right", draw.choice([0, 0, 1, 2, 5]), draw.choice([draw.randint(1, 9), draw.randint(1, 50)]))
    if kind == "back":
        return "back"
    if kind == "question":
        return draw.choice(QUESTIONS)
    deed = [abs(word) if isinstance(word, int) else word
            for word in drawn_deed(draw, WARES, fields[0], sources, count) if word is not None]
    return row_of(*deed)


def mingled(draw, kinds):
    """All rows, each kind's in their order."""
    left = [list(kind) for kind in kinds if kind]
    rows = []
    while left:
        kind = draw.choice(left)
        rows.append(kind.pop(0))
        left = [kind for kind in left if kind]
    return rows


def with_blanks(draw, rows):
    found = []
    for row in rows:
        if draw.random() < 0.1:
            found.append(" " * draw.randint(0, 2))
        words = row.split(" ")
        spread = words[0] + "".join(" " * draw.choice([1, 1, 1, 3]) + word for word in words[1:])
        found.append(" " * draw.choice([0, 0, 2]) + spread + " " * draw.choice([0, 0, 1]))
    return found + [""] * draw.choice([0, 0, 1])


def drawn_sheet(draw, turns):
    fields, fill = drawn_pipe_and_fill(draw, 2)
    drawn = [drawn_sources, drawn_tanks, drawn_bounds, drawn_orders]
    parts = [part(draw, WARES, len(fields[0])) for part in drawn]
    orders = [drawn_order(draw, fields, parts[0], len(parts[3])) for turn in range(turns)]
    return (fields, fill, *parts), with_blanks(draw, mingled(draw, rows_of_parts(fields, fill, *parts) + [orders]))


def spoiled_word(draw, word):
    if re.fullmatch("[0-9]+", word):
        number = int(word)
        return draw.choice([
            "0", str(number + 1), str(max(0, number - 1)), "0" + word, "-" + word, word + "x", "7", "21", "101", "401",
            "1001", "10001", "1000001", "10000001", "999999999", "1000000000", "oil",
        ])
    others = ["oil", "gas", "a", "abcdefgh", "abcdefghi", "A", "room", "table", "push", "pipe", "3", word + word]
    return draw.choice(others)


def spoiled(draw, rows):
    """A sheet with one thing other than it was: often refused then."""
    rows = list(rows)
    number = draw.randrange(len(rows))
    words = rows[number].split()
    ways = ["drop", "twice", "elsewhere", "swap", "longer", "shorter", "turned", "no rooms", "apart"]
    way = draw.choice(["word"] * 8 + ways)
    if way == "word" and words:
        place = draw.randrange(len(words))
        words[place] = spoiled_word(draw, words[place])
        rows[number] = " ".join(words)
    elif way == "drop":
        rows.pop(number)
    elif way == "twice":
        rows.insert(draw.randint(0, len(rows)), rows[number])
    elif way == "elsewhere":
        rows.insert(draw.randint(0, len(rows) - 1), rows.pop(number))
    elif way == "swap":
        other = draw.randrange(len(rows))
        rows[number], rows[other] = rows[other], rows[number]
    elif way == "longer":
        rows[number] += " " + draw.choice(["1", "oil"])
    elif way == "shorter":
        rows[number] = " ".join(words[:-1])
    elif way == "turned" and len(words) > 2:
        rows.insert(draw.randint(number, len(rows)), " ".join([words[0], words[2], words[1]] + words[3:]))
    elif way == "apart":
        rows.insert(draw.randint(0, len(rows)), row_of("apart", *draw.sample(WARES, 2)))
    elif way == "no rooms":
        rows = [row for row in rows if "room" not in row]
    return rows


def fast(ask):
    try:
        return ("done", ask())
    except BadRow as refused:
        return ("row", refused.row)
    except BadFill:
        return ("fill",)
    except Touch as refused:
        return ("touch", refused.pair)


def slowly(ask):
    try:
        return ("done", ask())
    except SlowBadRow as refused:
        return ("row", refused.row)
    except SlowBadFill:
        return ("fill",)
    except SlowFillTouch as refused:
        return ("touch", refused.pair)


class DrawnSheets(unittest.TestCase):
    def assert_accounted(self, told):
        """What a sheet's accounts tell: ware by ware all that was given, less what is left, stays the same."""
        whole = {}
        for text in told:
            words = text.split()
            sides = [words[place:place + 6] for place in range(0, len(words), 6)]
            for ware, given, piped, tanked, slopped, handed in sides:
                there = sum(Fraction(side) for side in [piped, tanked, slopped, handed]) - Fraction(given)
                self.assertEqual(whole.setdefault(ware, there), there)

    def test_many_drawn_sheets(self):
        draw = random.Random(41)
        count = {}
        for number in range(120):
            parts, rows = drawn_sheet(draw, 18)
            text = "\n".join(rows)
            with self.subTest(number=number):
                works, orders = read_sheet(text)
                self.assertEqual(works_state(works), works_state(Works(pipe_of(parts[0]), *parts[1:])))
                told = answers(text)
                self.assertEqual(told, slow_answers(text))
                self.assertEqual(len(told), len(orders))
                self.assert_accounted([text for text, order in zip(told, orders) if order == ("account",)])
            for text, order in zip(told, orders):
                word = " ".join(text.split()[:2]) if text.startswith("refused") else text.split(" ")[0]
                words = [order[0] if order[0] in QUESTIONS else word]
                words.extend(word for word in ["slop", "pigs"] if word in text.split() and order[0] == "push")
                if re.search("[0-9]/[0-9]", text):
                    words.append("a fraction")
                for word in words:
                    count[word] = count.get(word, 0) + 1
        for word in [
            "out", "hour", "took", "right", "back", "pipe", "tanks", "account", "deeds", "refused deed",
            "refused later", "refused way", "refused source", "refused touch", "refused low", "refused high",
            "refused order", "slop", "pigs", "a fraction",
        ]:
            self.assertGreaterEqual(count.get(word, 0), 5, word)

    def test_many_sheets_with_something_wrong(self):
        draw = random.Random(42)
        count = {}
        for number in range(4000):
            if number % 40 == 0:
                rows = drawn_sheet(draw, 12)[1]
            text = "\n".join(spoiled(draw, rows))
            with self.subTest(text=text):
                wanted = slowly(lambda: slow_read(text))
                told = fast(lambda: read_sheet(text))
                self.assertEqual(told[0], wanted[0])
                if told[0] != "done":
                    self.assertEqual(told, wanted)
                    self.assertEqual(fast(lambda: answers(text)), wanted)
                else:
                    parts, orders = wanted[1]
                    self.assertEqual(told[1][1], orders)
                    self.assertEqual(works_state(told[1][0]), works_state(Works(pipe_of(parts[0]), *parts[1:])))
            count[wanted[0]] = count.get(wanted[0], 0) + 1
        for word, least in [("done", 500), ("row", 1000), ("fill", 80), ("touch", 10)]:
            self.assertGreaterEqual(count.get(word, 0), least, word)


if __name__ == "__main__":
    unittest.main()
