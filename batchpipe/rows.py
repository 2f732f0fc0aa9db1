"""The rows of a sheet: which there are, and the works and the orders that they tell."""

from batchpipe.errors import BadRow
from batchpipe.pipe import Pipe
from batchpipe.works import Works

FIGURES = "0123456789"
LETTERS = "abcdefghijklmnopqrstuvwxyz"

# By a row's first word and how many come behind it, what each of these is: a ware, or a number from
# the one to the other (999999999 is the greatest that nine figures write).
FORMS = {
    ("room", 1): ((1, 1000000),),
    ("table", 2): ((1, 1000000), (0, 1000000)),
    ("thick", 3): ("ware", "ware", (0, 20)),
    ("apart", 2): ("ware", "ware"),
    ("pigs", 2): ((0, 100), (1, 100)),
    ("fill", 2): ("ware", (1, 999999999)),
    ("source", 5): ((0, 999999999), "ware", (0, 999999999), (0, 999999999), (1, 1000000)),
    ("tank", 6): ((1, 999999999), "ware", (0, 999999999), (0, 999999999), (0, 999999999), (0, 1000)),
    ("bound", 4): ("ware", "ware", (0, 1000), (1, 1000)),
    ("order", 5): ((1, 999999999), "ware", (1, 999999999), (0, 400), (0, 400)),
    ("push", 4): ((0, 999999999), (0, 999999999), "ware", (1, 10000000)),
    ("push", 5): ((0, 999999999), (0, 999999999), "ware", (1, 10000000), (0, 1000000)),
    ("wait", 1): ((1, 10000),),
    ("take", 1): ((0, 999999999),),
    ("right", 2): ((0, 999999999), (1, 10000000)),
    ("back", 0): (),
    ("pipe", 0): (),
    ("tanks", 0): (),
    ("hour", 0): (),
    ("account", 0): (),
    ("deeds", 0): (),
}


def fits_always(values, ahead, last_node):
    return True


def fits_rising(values, ahead, last_node):
    return not ahead or (ahead[-1][0] < values[0] and ahead[-1][1] <= values[1])


def fits_two_wares(values, ahead, last_node):
    return values[0] != values[1] and sorted(values[:2]) not in [sorted(others[:2]) for others in ahead]


def fits_part(values, ahead, last_node):
    return values[0] <= values[1]


def fits_source(values, ahead, last_node):
    node, ware, level, low, rate = values
    return node < last_node and low <= level and is_first(values, ahead)


def fits_tank(values, ahead, last_node):
    node, ware, low, high, start, settle = values
    return node <= last_node and low <= high and start <= high and is_first(values, ahead)


def fits_bound(values, ahead, last_node):
    ware, other, number, parts = values
    return ware != other and number <= parts and is_first(values, ahead)


def fits_order(values, ahead, last_node):
    node, ware, volume, first, last = values
    return node <= last_node and first <= last


def is_first(values, ahead):
    return values[:2] not in [others[:2] for others in ahead]


# Of the kinds that make the works: how many rows there may be, and whether one fits behind those ahead of it.
PARTS = {
    "room": (6, fits_always),
    "table": (8, fits_rising),
    "thick": (40, fits_two_wares),
    "apart": (40, fits_two_wares),
    "pigs": (1, fits_part),
    "fill": (60, fits_always),
    "source": (40, fits_source),
    "tank": (40, fits_tank),
    "bound": (40, fits_bound),
    "order": (20, fits_order),
}


def read_sheet(text):
    rows = [words_in(row) for row in text.split("\n")]
    last_node = len([words for words in rows if words[:1] == ["room"]])
    parts = {}
    for kind in PARTS:
        parts[kind] = []
    orders = []
    for number, words in enumerate(rows):
        if words:
            values = values_of(words)
            if values is None:
                raise BadRow(number)
            if words[0] not in PARTS:
                orders.append(tuple(words[:1]) + values)
            elif may_stand(words[0], values, parts[words[0]], last_node):
                parts[words[0]].append(values)
            else:
                raise BadRow(number)
    if last_node == 0:
        raise BadRow(len(rows))
    return (works_of(parts), orders)


def words_in(row):
    return [word for word in row.split(" ") if word]


def values_of(words):
    form = FORMS.get((words[0], len(words) - 1))
    if form is None:
        return None
    values = tuple([value_of(word, wanted) for word, wanted in zip(words[1:], form)])
    return None if None in values else values


def value_of(word, wanted):
    if wanted == "ware":
        return word if len(word) <= 8 and is_made_of(word, LETTERS) else None
    if len(word) > 9 or not is_made_of(word, FIGURES) or (word[0] == "0" and word != "0"):
        return None
    return int(word) if wanted[0] <= int(word) <= wanted[1] else None


def is_made_of(word, signs):
    return all([sign in signs for sign in word])


def may_stand(kind, values, ahead, last_node):
    most, fits = PARTS[kind]
    return len(ahead) < most and fits(values, ahead, last_node)


def works_of(parts):
    pig = parts["pigs"][0] if parts["pigs"] else (1, 1)
    rooms = [values[0] for values in parts["room"]]
    bounds = [(ware, other, (number, count)) for ware, other, number, count in parts["bound"]]
    pipe = Pipe(rooms, parts["table"], parts["thick"], parts["apart"], pig)
    return Works(pipe, parts["fill"], parts["source"], parts["tank"], bounds, parts["order"])
