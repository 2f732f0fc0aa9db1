"""The pipe: its segments, how far wares mix on their way, and which must not touch."""

from batchpipe.fractions import made, times


class Pipe:
    def __init__(self, rooms, table, thick, apart, pig):
        self.rooms = list(rooms)
        self.table = list(table)
        self.thick = list(thick)
        self.apart = list(apart)
        self.pig = pig


def like_pipe(pipe):
    return Pipe(pipe.rooms, pipe.table, pipe.thick, pipe.apart, pipe.pig)


def place_of(pipe, node):
    return sum(pipe.rooms[:node])


def end_of(pipe):
    return place_of(pipe, len(pipe.rooms))


def is_way(pipe, i, j):
    return 0 <= i < j <= len(pipe.rooms)


def half_at(pipe, distance):
    near = 0
    near_half = 0
    for far, far_half in pipe.table:
        # A told distance itself is the beginning of the next line, or lies behind the last one.
        if distance < far:
            span = far - near
            return made(near_half * span + (far_half - near_half) * (distance - near), span)
        near = far
        near_half = far_half
    return made(near_half, 1)


def thick_of(pipe, one, other):
    if one == other:
        return 0
    for first, second, k in pipe.thick:
        if (first, second) == (one, other) or (first, second) == (other, one):
            return k
    return 1


def are_apart(pipe, one, other):
    return (one, other) in pipe.apart or (other, one) in pipe.apart


def first_apart(pipe, pairs):
    for one, other in pairs:
        if are_apart(pipe, one, other):
            return (one, other)
    return None


def half_between(pipe, one, other, distance, with_pig):
    half = times(half_at(pipe, distance), (thick_of(pipe, one, other), 1))
    return times(half, pipe.pig) if with_pig else half
