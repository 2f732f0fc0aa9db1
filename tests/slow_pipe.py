"""A slow reckoning of a pipe, unit by unit, which uses nothing of the program."""
import copy
from fractions import Fraction
from math import lcm


class SlowTouch(Exception):
    def __init__(self, pair):
        super().__init__(pair)
        self.pair = pair


def slow_half_at(table, distance):
    points = [(0, 0)] + list(table)
    for (near, low), (far, high) in zip(points, points[1:]):
        if near <= distance <= far:
            return low + Fraction((high - low) * (distance - near), far - near)
    return Fraction(points[-1][1])


def slow_thick_of(thick, one, other):
    told = {frozenset((first, second)): k for first, second, k in thick}
    return told.get(frozenset((one, other)), 1)


def as_units(row):
    return [entry[0] for entry in row for unit in range(entry[1])]


def runs_of(units):
    runs = []
    for unit in units:
        if runs and runs[-1][0] == unit:
            runs[-1] = (unit, runs[-1][1] + 1)
        else:
            runs.append((unit, 1))
    return runs


def as_pair(worth):
    worth = Fraction(worth)
    return (worth.numerator, worth.denominator)


def slow_view(units, halves):
    """halves: the half of each meeting, by its place."""
    fine = lcm(*[half.denominator for half in halves.values()])
    cells = [unit for unit in units for part in range(fine)]
    groups = {place: place for place in halves}
    owner = {}
    for place, half in halves.items():
        for cell in range(max(0, int((place - half) * fine)), min(len(cells), int((place + half) * fine))):
            if cell in owner:
                kept, lost = groups[owner[cell]], groups[place]
                groups = {other: kept if group == lost else group for other, group in groups.items()}
            owner[cell] = place
    labels = [("mixed", groups[owner[cell]]) if cell in owner else ("pure", ware) for cell, ware in enumerate(cells)]
    view = []
    start = 0
    for cell in range(1, len(cells) + 1):
        if cell == len(cells) or labels[cell] != labels[start]:
            counts = {}
            for ware in cells[start:cell]:
                counts[ware] = counts.get(ware, 0) + 1
            shares = [(ware, as_pair(Fraction(counts[ware], fine))) for ware in sorted(counts)]
            view.append((as_pair(Fraction(start, fine)), as_pair(Fraction(cell, fine)), shares))
            start = cell
    return view


def slow_view_of_out(out):
    halves = {}
    place = 0
    for ware, volume, half in out:
        if place > 0:
            halves[place] = Fraction(half[0], half[1])
        place += volume
    return slow_view(as_units(out), halves)


class SlowPipe:
    def __init__(self, rooms, table, thick, apart, pig, fill):
        self.places = [sum(rooms[:node]) for node in range(len(rooms) + 1)]
        self.table, self.thick, self.pig = table, thick, Fraction(pig[0], pig[1])
        self.apart = {frozenset(pair) for pair in apart}
        self.units = as_units(fill)
        self.end = len(self.units)
        # By place: the since of the meeting there, or None; the pigs there, from the head on.
        self.seams = [None] * (self.end + 1)
        for place in range(1, self.end):
            if self.units[place - 1] != self.units[place]:
                self.seams[place] = place
        self.pigs_at = [[] for place in range(self.end + 1)]

    def stretches(self):
        return runs_of(self.units)

    def meetings(self):
        return [(place, since) for place, since in enumerate(self.seams) if since is not None]

    def pigs(self):
        return [(place, number) for place, there in enumerate(self.pigs_at) for number in there]

    def half(self, one, other, distance, with_pig):
        half = slow_half_at(self.table, distance) * slow_thick_of(self.thick, one, other)
        return half * self.pig if with_pig else half

    def told(self):
        halves = {}
        for place, since in self.meetings():
            one, other = self.units[place - 1], self.units[place]
            halves[place] = self.half(one, other, place - since, bool(self.pigs_at[place]))
        return slow_view(self.units, halves)

    def touch(self, one, other):
        if frozenset((one, other)) in self.apart:
            raise SlowTouch((one, other))

    def pushed(self, i, j, ware, volume, pig):
        """A SlowPipe of its own, what came out, the caught pigs; raises SlowTouch."""
        later = copy.deepcopy(self)
        a, b = self.places[i], self.places[j]
        if a > 0:
            self.touch(self.units[a - 1], ware)
        self.touch(ware, self.units[a])
        if pig is not None:
            later.pigs_at[a].insert(0, pig)
        out, caught, hanging = [], [], None
        for unit in range(volume):
            hanging = later.step(a, b, ware, out, caught, hanging)
            if b < self.end:
                self.touch(later.units[b - 1], self.units[b])
        return later, [(gone, length, as_pair(half)) for gone, length, half in out], caught

    def step(self, a, b, ware, out, caught, hanging):
        """Moves all by one unit. hanging: since and pig of the meeting of what left last and what leaves now."""
        leaving = self.units[b - 1]
        if not out:
            out.append((leaving, 1, Fraction(0)))
        elif hanging[0] is None:
            out[-1] = (leaving, out[-1][1] + 1, out[-1][2])
        else:
            out.append((leaving, 1, self.half(leaving, out[-1][0], b - hanging[0], hanging[1])))
        seams = [self.seam_behind(a, ware)] + self.seams[a + 1:b]
        there = self.pigs_at[a:b]
        self.units[a:b] = [ware] + self.units[a:b - 1]
        self.seams[a + 1:b] = seams[:-1]
        self.pigs_at[a:b] = [[]] + there[:-1]
        caught.extend(reversed(there[-1]))
        if b < self.end:
            if self.units[b - 1] == self.units[b]:
                self.seams[b] = None
            elif leaving == self.units[b] or leaving != self.units[b - 1]:
                self.seams[b] = b
        return (seams[-1], bool(there[-1]))

    def seam_behind(self, a, ware):
        """The since of the meeting behind a unit that comes in at a; sets the one at a."""
        ahead = self.units[a - 1] if a > 0 else None
        behind = self.units[a]
        if ware == behind:
            return None
        if ware == ahead:
            since = self.seams[a]
            self.seams[a] = None
            return since
        if a > 0:
            self.seams[a] = a
        return a
