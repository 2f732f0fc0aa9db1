"""Which wares come to touch in a push."""

from batchpipe.content import ware_at
from batchpipe.moving import moving_row
from batchpipe.pipe import first_apart, place_of


def passing_wares(row, volume):
    passing = []
    gone = 0
    for ware, length, since in reversed(row):
        # One that begins just where the last volume of the row ends comes to lie at the node, too.
        if gone <= volume:
            passing.append(ware)
        gone += length
    return passing


def pairs_ahead(content, a, ware):
    return [(ware_at(content, a - 1), ware)] if a > 0 else []


def pairs_at_first(content, a, ware):
    return pairs_ahead(content, a, ware) + [(ware, ware_at(content, a))]


def touching_pairs(content, i, j, ware, volume):
    a = place_of(content.own_pipe, i)
    b = place_of(content.own_pipe, j)
    pairs = pairs_at_first(content, a, ware)
    if j < len(content.own_pipe.rooms):
        behind = ware_at(content, b)
        for passing in passing_wares(moving_row(content, a, b, ware, volume), volume):
            pairs.append((passing, behind))
    return pairs


def first_touch(content, i, j, ware, volume):
    return first_apart(content.own_pipe, touching_pairs(content, i, j, ware, volume))
