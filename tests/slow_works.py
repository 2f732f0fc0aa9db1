"""A slow reckoning of a works, over the pipe unit by unit, which uses nothing of the program."""
import copy
from fractions import Fraction

from slow_pipe import SlowPipe, SlowTouch, as_pair, slow_view_of_out


class SlowRefused(Exception):
    def __init__(self, word):
        super().__init__(word)
        self.word = word


class SlowTank:
    def __init__(self, low, high, start, settle, ware):
        self.low, self.high, self.settle = low, high, settle
        self.holds = {ware: Fraction(start)}
        self.rested = Fraction(0)

    def level(self):
        return sum(self.holds.values())

    def add(self, shares):
        for ware, amount in shares.items():
            self.holds[ware] = self.holds.get(ware, 0) + amount


def as_shares(amounts):
    return [(ware, as_pair(amounts[ware])) for ware in sorted(amounts) if amounts[ware] > 0]


def first_word(checks):
    """The word of the first check that is not passed; a check is only asked where all ahead of it are passed."""
    for word, passed in checks:
        if not passed():
            raise SlowRefused(word)


class SlowWorks:
    def __init__(self, fields, fill, sources, tanks, bounds, orders):
        self.pipe = SlowPipe(*fields, fill)
        self.segments = len(fields[0])
        self.hour = Fraction(0)
        self.sources = {(node, ware): [level, low, rate] for node, ware, level, low, rate in sources}
        self.tanks = {
            (node, ware): SlowTank(low, high, start, settle, ware) for node, ware, low, high, start, settle in tanks
        }
        self.slops = {}
        self.bounds = {(ware, other): Fraction(*part) for ware, other, part in bounds}
        self.orders = orders
        self.taken = []
        self.wares = {ware for ware, volume in fill} | {row[1] for row in sources + tanks + orders}
        self.given = {ware: 0 for ware in self.wares}
        self.handed = {ware: Fraction(0) for ware in self.wares}

    def do(self, deed):
        """What is told. Where it is refused the works is spoiled: whoever asks hands in a copy."""
        if deed[0] == "wait":
            self.hour += deed[1]
            return ("wait",)
        return self.push(*deed[1:]) if deed[0] == "push" else self.take(deed[1])

    def touches(self, push):
        try:
            self.pipe.pushed(*push)
        except SlowTouch:
            return True
        return False

    def push(self, i, j, ware, volume, pig):
        source = self.sources.get((i, ware))
        first_word([
            ("way", lambda: i in range(j) and j in range(1, self.segments + 1)),
            ("source", lambda: source is not None),
            ("touch", lambda: not self.touches((i, j, ware, volume, pig))),
            ("low", lambda: source[0] - volume >= source[1]),
        ])
        begin = self.hour
        self.pipe, out, caught = self.pipe.pushed(i, j, ware, volume, pig)
        view = slow_view_of_out(out)
        goals = []
        for start, stop, pairs in view:
            shares = {name: Fraction(*amount) for name, amount in pairs}
            goals.append(self.stored(j, shares, begin + Fraction(*stop) / source[2]))
        first_word([("high", lambda: all(tank.level() <= tank.high for tank in self.tanks.values()))])
        source[0] -= volume
        self.given[ware] += volume
        self.hour += Fraction(volume, source[2])
        return ("push", view, goals, caught)

    def stored(self, node, shares, hour):
        for name in sorted(shares, key=lambda name: (-shares[name], name)):
            if (node, name) in self.tanks and self.blends(node, name, shares):
                self.tanks[(node, name)].add(shares)
                self.tanks[(node, name)].rested = hour
                return name
        slop = self.slops.setdefault(node, {})
        for name, amount in shares.items():
            slop[name] = slop.get(name, 0) + amount
        return None

    def blends(self, node, name, shares):
        if set(shares) == {name}:
            return True
        tried = copy.deepcopy(self.tanks[(node, name)])
        tried.add(shares)
        parts = {other: amount / tried.level() for other, amount in tried.holds.items() if other != name}
        return all(part <= self.bounds.get((name, other), 0) for other, part in parts.items())

    def take(self, k):
        first_word([("order", lambda: k in range(len(self.orders)) and k not in self.taken)])
        node, ware, volume, first, last = self.orders[k]
        tank = self.tanks.get((node, ware))
        first_word([
            ("tank", lambda: tank is not None),
            ("early", lambda: self.hour >= 24 * first),
            ("late", lambda: self.hour <= 24 * last + 24),
            ("settle", lambda: self.hour - tank.rested >= tank.settle),
            ("low", lambda: tank.level() - volume >= tank.low),
        ])
        level = tank.level()
        shares = {name: amount * volume / level for name, amount in tank.holds.items()}
        for name, amount in shares.items():
            tank.holds[name] -= amount
            self.handed[name] += amount
        self.taken.append(k)
        return ("take", as_shares(shares))

    def account(self):
        rows = []
        for ware in sorted(self.wares):
            tanked = sum(tank.holds.get(ware, 0) for tank in self.tanks.values())
            slopped = sum(slop.get(ware, 0) for slop in self.slops.values())
            sides = [self.given[ware], self.pipe.units.count(ware), tanked, slopped, self.handed[ware]]
            rows.append((ware,) + tuple(as_pair(side) for side in sides))
        return rows

    def state(self):
        return {
            "content": (self.pipe.stretches(), self.pipe.meetings(), self.pipe.pigs()),
            "hour": as_pair(self.hour),
            "sources": [key + tuple(row) for key, row in self.sources.items()],
            "tanks": [key + (as_shares(tank.holds), as_pair(tank.rested)) for key, tank in self.tanks.items()],
            "slops": [(node, as_shares(self.slops[node])) for node in sorted(self.slops)],
            "taken": self.taken,
            "account": self.account(),
        }


def slow_spacer(slow, i, ware, spacers):
    """None, a spacer, or "none" where there is none: by what lies in the pipe with the wares written in at the node."""
    a = slow.places[i]
    ahead, behind = slow.units[:a], slow.units[a:]

    def fits(row):
        return not any(frozenset(pair) in slow.apart for pair in zip(row, row[1:]))

    if fits(ahead + [ware] + behind):
        return None
    for spacer in spacers:
        if fits(ahead + [ware, spacer[0]] + behind) and fits(ahead + [spacer[0]] + behind):
            return spacer
    return "none"
