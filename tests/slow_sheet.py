"""A slow reading of sheets, by their rows' forms as they are told, and slow answers, by a slow book."""
import itertools
import re
from fractions import Fraction

from slow_book import SlowBadLater, SlowBook, SlowNoDeed
from slow_works import SlowRefused, SlowWorks, as_shares

PARTS = """room N; table D H; thick A B K; apart A B; pigs N D; fill A N; source NODE A LEVEL LOW RATE;
tank NODE A LOW HIGH START SETTLE; bound A B N D; order NODE A VOLUME FIRST LAST"""
ORDERS = """push I J A N; push I J A N P; wait N; take K; right K N; back; pipe; tanks; hour; account; deeds"""


class SlowBadRow(Exception):
    def __init__(self, row):
        super().__init__(row)
        self.row = row


class SlowBadFill(Exception):
    pass


class SlowFillTouch(Exception):
    def __init__(self, pair):
        super().__init__(pair)
        self.pair = pair


def pattern_of(form):
    words = []
    for word in form.split():
        words.append("([a-z]{1,8})" if word in "AB" else "(0|[1-9][0-9]{0,8})" if word.isupper() else f"({word})")
    return re.compile(" *" + " +".join(words) + " *")


PART_PATTERNS = [pattern_of(form) for form in PARTS.split(";")]
ORDER_PATTERNS = [pattern_of(form) for form in ORDERS.split(";")]


def as_row(row, patterns):
    """The row's words, numbers as numbers, or None."""
    for pattern in patterns:
        match = pattern.fullmatch(row)
        if match:
            return tuple(int(word) if word.isdigit() else word for word in match.groups())
    return None


def unlike(pairs):
    return all(one != other for one, other in pairs)


def no_two_alike(things):
    return all(one != other for one, other in itertools.combinations(things, 2))


def good_parts(kind, rows, last):
    """Whether these may be all the rows of a kind."""
    pairs = [row[:2] for row in rows]
    if kind == "room":
        return len(rows) <= 6 and all(1 <= row[0] <= 10 ** 6 for row in rows)
    if kind == "table":
        rising = all(one[0] < two[0] and one[1] <= two[1] for one, two in itertools.combinations(rows, 2))
        return len(rows) <= 8 and rising and all(1 <= d <= 10 ** 6 and h <= 10 ** 6 for d, h in rows)
    if kind in ["thick", "apart"]:
        good = len(rows) <= 40 and unlike(pairs) and no_two_alike([frozenset(pair) for pair in pairs])
        return good and (kind == "apart" or all(k <= 20 for a, b, k in rows))
    if kind == "pigs":
        return len(rows) <= 1 and all(n <= d and 1 <= d <= 100 for n, d in rows)
    if kind == "fill":
        return len(rows) <= 60 and all(n >= 1 for a, n in rows)
    if kind == "source":
        good = all(n < last and low <= level <= 10 ** 9 and 1 <= r <= 10 ** 6 for n, a, level, low, r in rows)
        return len(rows) <= 40 and good and no_two_alike(pairs)
    if kind == "tank":
        good = all(1 <= n <= last and max(low, start) <= high and s <= 1000 for n, a, low, high, start, s in rows)
        return len(rows) <= 40 and good and no_two_alike(pairs)
    if kind == "bound":
        good = all(n <= d and 1 <= d <= 1000 for a, b, n, d in rows)
        return len(rows) <= 40 and good and unlike(pairs) and no_two_alike(pairs)
    return len(rows) <= 20 and all(1 <= n <= last and v >= 1 and f <= t <= 400 for n, a, v, f, t in rows)


def good_order(order):
    if order[0] == "push":
        return 1 <= order[4] <= 10 ** 7 and all(pig <= 10 ** 6 for pig in order[5:])
    if order[0] == "wait":
        return 1 <= order[1] <= 10000
    return order[0] != "right" or 1 <= order[2] <= 10 ** 7


def slow_read(text):
    """(fields, fill, sources, tanks, bounds, orders) and the list of the orders of the second kind."""
    rows = re.split("\n", text)
    last = sum(1 for row in rows if re.match(" *room( |$)", row))
    parts = {form.split()[0]: [] for form in PARTS.split(";")}
    orders = []
    for number, row in enumerate(rows):
        part, order = as_row(row, PART_PATTERNS), as_row(row, ORDER_PATTERNS)
        if part:
            parts[part[0]].append(part[1:])
            if not good_parts(part[0], parts[part[0]], last):
                raise SlowBadRow(number)
        elif order and good_order(order):
            orders.append(order)
        elif row.strip(" "):
            raise SlowBadRow(number)
    if not parts["room"]:
        raise SlowBadRow(len(rows))
    return works_parts(parts), orders


def works_parts(parts):
    rooms = [row[0] for row in parts["room"]]
    pig = (parts["pigs"] + [(1, 1)])[0]
    if sum(n for a, n in parts["fill"]) != sum(rooms):
        raise SlowBadFill()
    apart = {frozenset(pair) for pair in parts["apart"]}
    for near, far in zip(parts["fill"], parts["fill"][1:]):
        if frozenset((near[0], far[0])) in apart:
            raise SlowFillTouch((near[0], far[0]))
    bounds = [(a, b, (n, d)) for a, b, n, d in parts["bound"]]
    fields = [rooms, parts["table"], parts["thick"], parts["apart"], pig]
    return [fields, parts["fill"], parts["source"], parts["tank"], bounds, parts["order"]]


def text_of(*things):
    """Words and fractions (pairs of numbers) and lists of these, written with one blank between each two."""
    words = []
    for thing in things:
        if isinstance(thing, list):
            words.extend([text_of(*thing)] if thing else [])
        elif isinstance(thing, tuple) and isinstance(thing[0], int):
            words.append(str(Fraction(*thing)))
        elif isinstance(thing, tuple):
            words.append(text_of(*thing))
        else:
            words.append(str(thing))
    return " ".join(words)


def slow_answers(text):
    parts, orders = slow_read(text)
    book = SlowBook(SlowWorks(*parts))
    return [slow_answer(book, order) for order in orders]


def slow_answer(book, order):
    try:
        return done_answer(book, order)
    except SlowRefused as refused:
        return f"refused {refused.word}"
    except SlowNoDeed:
        return "refused deed"
    except SlowBadLater as refused:
        return f"refused later {refused.place} {refused.word}"


def done_answer(book, order):
    kind = order[0]
    if kind == "push":
        told = book.add((order + (None,))[:6])
        triples = [triple + (goal or "slop",) for triple, goal in zip(told[1], told[2])]
        return text_of("out", [part for triple in triples for part in triple], ["pigs"] + told[3] if told[3] else [])
    if kind == "wait":
        book.add(order)
        return f"hour {book.works().hour}"
    if kind == "take":
        return text_of("took", book.add(order)[1])
    if kind == "right":
        return text_of("right", book.put_right(order[1], order[2]))
    if kind == "back":
        book.taken_back()
        return "back"
    return question_answer(book.works(), kind, len(book.deeds))


def question_answer(works, kind, count):
    if kind == "pipe":
        return text_of([part for triple in works.pipe.told() for part in triple])
    if kind == "tanks":
        tanks = [("tank", node, ware, as_shares(tank.holds)) for (node, ware), tank in works.tanks.items()]
        slops = [("slop", node, as_shares(works.slops[node])) for node in sorted(works.slops)]
        return text_of(tanks + slops)
    if kind == "account":
        return text_of(works.account())
    return str(works.hour) if kind == "hour" else str(count)
