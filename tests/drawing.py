"""Draws small pipes, fills and pushes, the same ones each time."""
from batchpipe.pipe import Pipe

WARES = ["a", "b", "oil", "gas"]


def drawn_pairs(draw, wares, most):
    pairs = [(one, other) for k, one in enumerate(wares) for other in wares[k + 1:]]
    chosen = draw.sample(pairs, min(len(pairs), draw.randint(0, most)))
    return [pair if draw.random() < 0.5 else (pair[1], pair[0]) for pair in chosen]


def drawn_pipe_fields(draw, wares, most_apart):
    rooms = [draw.randint(1, 7) for segment in range(draw.randint(1, 6))]
    distances = sorted(draw.sample(range(1, 16), draw.randint(0, 3)))
    halves = sorted(draw.randint(0, 6) for distance in distances)
    thick = [pair + (draw.randint(0, 3),) for pair in drawn_pairs(draw, wares, 3)]
    pig = draw.choice([(0, 1), (1, 2), (1, 3), (2, 4), (1, 1)])
    return [rooms, list(zip(distances, halves)), thick, drawn_pairs(draw, wares, most_apart), pig]


def drawn_fill(draw, wares, end):
    fill = []
    left = end
    while left > 0:
        volume = draw.randint(1, min(left, 6))
        fill.append((draw.choice(wares), volume))
        left -= volume
    return fill


def drawn_push(draw, wares, rooms):
    i = draw.randrange(len(rooms))
    j = draw.randint(i + 1, len(rooms))
    between = sum(rooms[i:j])
    volume = draw.choice([draw.randint(1, 6), draw.randint(1, between), between, between + draw.randint(1, 5)])
    pig = draw.choice([None, None, draw.randint(0, 99)])
    return (i, j, draw.choice(wares), volume, pig)


def scaled_fields(fields, scale):
    rooms, table, thick, apart, pig = fields
    return [[room * scale for room in rooms], [(far * scale, half * scale) for far, half in table], thick, apart, pig]


def pipe_of(fields):
    return Pipe(*fields)
