"""Tanks: what stands in them, and what may be blended into them."""

from batchpipe.fractions import below, less_by, made, times
from batchpipe.shares import part_of, together, whole_of


class Tank:
    def __init__(self, ware, low, high, start, settle):
        self.ware = ware
        self.low = low
        self.high = high
        self.start = start
        self.settle = settle
        self.holds = [(ware, (start, 1))] if start > 0 else []
        self.rested = (0, 1)


def tank_with(tank, holds, rested):
    other = Tank(tank.ware, tank.low, tank.high, tank.start, tank.settle)
    other.holds = list(holds)
    other.rested = rested
    return other


def like_tank(tank):
    return tank_with(tank, tank.holds, tank.rested)


def level_of(tank):
    return whole_of(tank.holds)


def bound_of(bounds, ware, other):
    for first, second, part in bounds:
        if (first, second) == (ware, other):
            return part
    return (0, 1)


def may_blend(tank, shares, bounds):
    holds = together([tank.holds, shares])
    level = whole_of(holds)
    for ware, amount in holds:
        if ware != tank.ware and below(times(level, bound_of(bounds, tank.ware, ware)), amount):
            return False
    return True


def put_in(tank, shares, hour):
    return tank_with(tank, together([tank.holds, shares]), hour)


def taken_out(tank, volume):
    level = level_of(tank)
    part = made(volume * level[1], level[0])
    rest = part_of(tank.holds, less_by((1, 1), part))
    return (tank_with(tank, rest, tank.rested), part_of(tank.holds, part))
