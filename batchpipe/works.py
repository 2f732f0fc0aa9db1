"""Works: a pipe with its sources, tanks and orders, and what is done with them by the hour."""

from batchpipe.content import Content, like_content, stretches
from batchpipe.errors import BadDeed
from batchpipe.fractions import below, made, sum_of
from batchpipe.goals import number_of, shared_out, tank_number, with_slop
from batchpipe.pipe import is_way, like_pipe
from batchpipe.pushing import pushed
from batchpipe.shares import amount_of, together
from batchpipe.tanks import Tank, level_of, like_tank, taken_out
from batchpipe.touching import first_touch
from batchpipe.views import told_out


class Works:
    def __init__(self, pipe, fill, sources, tanks, bounds, orders):
        self.content = Content(pipe, fill)
        self.pipe = like_pipe(pipe)
        self.hour = (0, 1)
        self.sources = list(sources)
        self.tanks = [
            (node, Tank(ware, low, high, start, settle)) for node, ware, low, high, start, settle in tanks
        ]
        self.slops = []
        self.bounds = list(bounds)
        self.orders = list(orders)
        self.taken = []
        # What the account asks for beside the fields above: all wares at first, and what came in and went.
        rows = list(sources) + list(tanks) + list(orders)
        self.wares = sorted(set([row[1] for row in rows] + [ware for ware, volume in fill]))
        self.given = []
        self.handed = []


def like(works):
    # The content's own pipe, since the field pipe may be changed by whoever was told it.
    same = Works(works.content.own_pipe, stretches(works.content), works.sources, [], works.bounds, works.orders)
    same.content = like_content(works.content)
    same.hour = works.hour
    same.tanks = [(node, like_tank(tank)) for node, tank in works.tanks]
    same.slops = [(node, list(shares)) for node, shares in works.slops]
    same.taken = list(works.taken)
    same.wares = list(works.wares)
    same.given = list(works.given)
    same.handed = list(works.handed)
    return same


def do_deed(works, deed):
    if deed[0] == "push":
        return do_push(works, deed[1], deed[2], deed[3], deed[4], deed[5])
    if deed[0] == "wait":
        works.hour = sum_of(works.hour, (deed[1], 1))
        return ("wait",)
    return do_take(works, deed[1])


def source_number(works, i, j, ware, volume):
    if not is_way(works.content.own_pipe, i, j):
        raise BadDeed("way")
    number = number_of([(source[0], source[1]) for source in works.sources], (i, ware))
    if number is None:
        raise BadDeed("source")
    if first_touch(works.content, i, j, ware, volume) is not None:
        raise BadDeed("touch")
    node, name, level, low, rate = works.sources[number]
    if level - volume < low:
        raise BadDeed("low")
    return number


def drawn_sources(sources, number, volume):
    later = list(sources)
    node, ware, level, low, rate = sources[number]
    later[number] = (node, ware, level - volume, low, rate)
    return later


def do_push(works, i, j, ware, volume, pig):
    number = source_number(works, i, j, ware, volume)
    rate = works.sources[number][4]
    later, out, caught = pushed(works.content, i, j, ware, volume, pig)
    view = told_out(out)
    tanks, goals, slop = shared_out(works.tanks, works.bounds, j, view, works.hour, rate)
    # Nothing is refused from here on, so the works may be changed.
    works.content = later
    works.hour = sum_of(works.hour, made(volume, rate))
    works.sources = drawn_sources(works.sources, number, volume)
    works.tanks = tanks
    works.slops = with_slop(works.slops, j, slop)
    works.given = together([works.given, [(ware, (volume, 1))]])
    return ("push", view, goals, caught)


def order_tank(works, k):
    if not 0 <= k < len(works.orders) or k in works.taken:
        raise BadDeed("order")
    node, ware, volume, first, last = works.orders[k]
    number = tank_number(works.tanks, node, ware)
    if number is None:
        raise BadDeed("tank")
    tank = works.tanks[number][1]
    if below(works.hour, (24 * first, 1)):
        raise BadDeed("early")
    if below((24 * (last + 1), 1), works.hour):
        raise BadDeed("late")
    if below(works.hour, sum_of(tank.rested, (tank.settle, 1))):
        raise BadDeed("settle")
    if below(level_of(tank), (tank.low + volume, 1)):
        raise BadDeed("low")
    return number


def do_take(works, k):
    number = order_tank(works, k)
    node, tank = works.tanks[number]
    later, shares = taken_out(tank, works.orders[k][2])
    tanks = list(works.tanks)
    tanks[number] = (node, later)
    works.tanks = tanks
    works.taken = works.taken + [k]
    works.handed = together([works.handed, shares])
    return ("take", shares)


def account_of(works):
    piped = together([[(ware, (volume, 1))] for ware, volume in stretches(works.content)])
    tanked = together([tank.holds for node, tank in works.tanks])
    slopped = together([shares for node, shares in works.slops])
    sides = [works.given, piped, tanked, slopped, works.handed]
    return [account_row(ware, sides) for ware in works.wares]


def account_row(ware, sides):
    return tuple([ware] + [amount_of(shares, ware) for shares in sides])
