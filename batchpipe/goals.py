"""Where what came out of the pipe goes: to the tanks of a node, or to its slop."""

from batchpipe.errors import BadDeed
from batchpipe.fractions import below, sum_of, times
from batchpipe.shares import by_falling_amount, together
from batchpipe.tanks import level_of, may_blend, put_in


def number_of(pairs, wanted):
    for number, pair in enumerate(pairs):
        if pair == wanted:
            return number
    return None


def tank_number(tanks, node, ware):
    return number_of([(where, tank.ware) for where, tank in tanks], (node, ware))


def goal_of(tanks, bounds, node, shares):
    for ware, amount in by_falling_amount(shares):
        number = tank_number(tanks, node, ware)
        if number is not None and (len(shares) == 1 or may_blend(tanks[number][1], shares, bounds)):
            return number
    return None


def filled(tank, shares, hour):
    later = put_in(tank, shares, hour)
    if below((later.high, 1), level_of(later)):
        raise BadDeed("high")
    return later


def shared_out(tanks, bounds, node, view, hour, rate):
    later = list(tanks)
    goals = []
    slop = []
    for start, stop, shares in view:
        number = goal_of(later, bounds, node, shares)
        if number is None:
            goals.append(None)
            slop = together([slop, shares])
        else:
            tank = filled(later[number][1], shares, sum_of(hour, times(stop, (1, rate))))
            goals.append(tank.ware)
            later[number] = (node, tank)
    return (later, goals, slop)


def with_slop(slops, node, slop):
    found = {}
    for where, shares in slops + [(node, slop)]:
        found[where] = together([found.get(where, []), shares])
    return sorted([(where, shares) for where, shares in found.items() if shares])
