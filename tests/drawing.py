"""Draws small pipes, fills and pushes, the same ones each time."""
from batchpipe.pipe import Pipe

WARES = ["a", "b", "oil", "gas"]


def drawn_pairs(draw, wares, most):
    pairs = [(one, other) for k, one in enumerate(wares) for other in wares[k + 1:]]
    chosen = draw.sample(pairs, min(len(pairs), draw.randint(0, most)))
    return [pair if draw.random() < 0.5 else (pair[1], pair[0]) for pair in chosen]


def drawn_pipe_fields(draw, wares, most_apart):
    rooms = [draw.randint(1, 7) for segment in range(draw.randint(1, 6))]
    distances = sorted(draw.sample(range(1, 16), draw.randint(0, 3)))
    halves = sorted(draw.randint(0, 6) for distance in distances)
    thick = [pair + (draw.randint(0, 3),) for pair in drawn_pairs(draw, wares, 3)]
    pig = draw.choice([(0, 1), (1, 2), (1, 3), (2, 4), (1, 1)])
    return [rooms, list(zip(distances, halves)), thick, drawn_pairs(draw, wares, most_apart), pig]


def drawn_fill(draw, wares, end):
    fill = []
    left = end
    while left > 0:
        volume = draw.randint(1, min(left, 6))
        fill.append((draw.choice(wares), volume))
        left -= volume
    return fill


def drawn_pipe_and_fill(draw, most_apart):
    """A pipe's fields, and a fill that may lie in it."""
    while True:
        fields = drawn_pipe_fields(draw, WARES, most_apart)
        fill = drawn_fill(draw, WARES, sum(fields[0]))
        apart = {frozenset(pair) for pair in fields[3]}
        if not any(frozenset((near[0], far[0])) in apart for near, far in zip(fill, fill[1:])):
            return fields, fill


def drawn_push(draw, wares, rooms):
    i = draw.randrange(len(rooms))
    j = draw.randint(i + 1, len(rooms))
    between = sum(rooms[i:j])
    volume = draw.choice([draw.randint(1, 6), draw.randint(1, between), between, between + draw.randint(1, 5)])
    pig = draw.choice([None, None, draw.randint(0, 99)])
    return (i, j, draw.choice(wares), volume, pig)


def scaled_fields(fields, scale):
    rooms, table, thick, apart, pig = fields
    return [[room * scale for room in rooms], [(far * scale, half * scale) for far, half in table], thick, apart, pig]


def pipe_of(fields):
    return Pipe(*fields)


def drawn_sources(draw, wares, segments):
    places = [(node, ware) for node in range(segments) for ware in wares]
    sources = []
    for node, ware in places:
        if node == 0 or draw.random() < 0.6:
            level = draw.randint(0, 90)
            sources.append((node, ware, level, draw.randint(0, min(level, 10)), draw.randint(1, 4)))
    return draw.sample(sources, draw.randint(1, len(sources)))


def drawn_tanks(draw, wares, segments):
    tanks = []
    for node in range(1, segments + 1):
        for ware in wares:
            if draw.random() < 0.8:
                high = draw.randint(5, 60)
                start = draw.choice([0, draw.randint(0, high)])
                settle = draw.choice([0, draw.randint(0, 9)])
                tanks.append((node, ware, draw.choice([0, draw.randint(0, 5)]), high, start, settle))
    return draw.sample(tanks, len(tanks))


def drawn_bounds(draw, wares, segments):
    bounds = []
    for ware in wares:
        for other in wares:
            if ware != other and draw.random() < 0.7:
                parts = draw.randint(1, 12)
                bounds.append((ware, other, (draw.randint(0, parts), parts)))
    return draw.sample(bounds, len(bounds))


def drawn_orders(draw, wares, segments):
    orders = []
    for number in range(draw.randint(0, 7)):
        first = draw.choice([0, 0, 0, draw.randint(0, 3)])
        last = first + draw.choice([0, 2, 5])
        orders.append((draw.randint(1, segments), draw.choice(wares), draw.randint(1, 8), first, last))
    return orders


def drawn_deed(draw, wares, rooms, sources, orders):
    kind = draw.choice(["push"] * 5 + ["take"] * 4 + ["wait"])
    if kind == "wait":
        return ("wait", draw.choice([1, 2, draw.randint(1, 30)]))
    if kind == "take":
        return ("take", draw.choice([draw.randint(-2, orders + 1), draw.randint(0, max(orders - 1, 0))]))
    i, j, ware, volume, pig = drawn_push(draw, wares, rooms)
    likely = [name for node, name, level, low, rate in sources if node == i]
    if likely and draw.random() < 0.9:
        ware = draw.choice(likely)
    if draw.random() < 0.05:
        i, j = draw.randint(-1, len(rooms) + 1), draw.randint(-1, len(rooms) + 1)
    return ("push", i, j, ware, volume, pig)


def drawn_spacers(draw, wares):
    return [(draw.choice(wares + ["water"]), draw.randint(1, 12)) for number in range(draw.randint(0, 5))]


def drawn_plan(draw):
    """Parts of a works, batches and spacers, of which a plan can be made now and then."""
    wares = WARES + ["water"]
    fields, fill = drawn_pipe_and_fill(draw, 3)
    end = len(fields[0])
    short = draw.random() < 0.2
    sources = [(0, ware, draw.randint(0, 30) if short else 300, 0, draw.randint(1, 4)) for ware in wares]
    tanks = []
    for ware in wares:
        high = draw.choice([20, 60, 200, 200])
        tanks.append((end, ware, draw.choice([0, 2]), high, draw.randint(0, 8), draw.choice([0, 0, 5, 30])))
    orders = []
    for number in range(draw.choice([0, 1, 2, 2, 3])):
        first = draw.choice([0, 0, 1, 2])
        orders.append((end, draw.choice(wares), draw.randint(1, 8), first, first + draw.randint(0, 2)))
    batches = [(draw.choice(WARES), draw.randint(1, 40)) for number in range(draw.choice([1, 2, 2, 3, 3, 3, 4]))]
    parts = [draw.sample(sources, draw.choice([4, 5, 5])), draw.sample(tanks, draw.choice([4, 5, 5]))]
    return fields, fill, parts + [drawn_bounds(draw, wares, end), orders], batches, drawn_spacers(draw, WARES)
