"""A slow reckoning of shapes and plans, over the slow works, step by step as it is told."""
import copy
import itertools
from fractions import Fraction

from slow_pipe import as_pair
from slow_works import SlowRefused, slow_spacer


class SlowShape:
    def __init__(self, works, batches, spacers, numbers):
        self.works = copy.deepcopy(works)
        self.deeds = []
        self.waste = Fraction(0)
        self.holds = all(self.send(batches[number], spacers) for number in numbers) and self.wait_for_all()

    def take_all(self):
        for k in range(len(self.works.orders)):
            try:
                self.works.take(k)
                self.deeds.append(("take", k))
            except SlowRefused:
                pass

    def send(self, batch, spacers):
        self.take_all()
        spacer = slow_spacer(self.works.pipe, 0, batch[0], spacers)
        if spacer == "none":
            return False
        return (spacer is None or self.push(*spacer)) and self.push(*batch)

    def push(self, ware, volume):
        deed = ("push", 0, self.works.segments, ware, volume, None)
        try:
            view = self.works.do(deed)[1]
        except SlowRefused:
            return False
        self.deeds.append(deed)
        self.waste += sum(Fraction(*stop) - Fraction(*start) for start, stop, shares in view if len(shares) >= 2)
        return True

    def wait_for_all(self):
        self.take_all()
        count = len(self.works.orders)
        while len(self.works.taken) < count and self.works.hour < 24 * max(row[4] for row in self.works.orders) + 24:
            self.works.do(("wait", 1))
            self.deeds.append(("wait", 1))
            self.take_all()
        return len(self.works.taken) == count

    def answer(self):
        return (as_pair(self.waste), self.deeds) if self.holds else None


def slow_shapes(works, batches, spacers):
    """By the lists of numbers, rising: what each shape comes to."""
    numbers = range(len(batches))
    return {order: SlowShape(works, batches, spacers, order).answer() for order in itertools.permutations(numbers)}


def slow_plan(shapes):
    """The plan among these shapes, or None."""
    found = [(Fraction(*shapes[order][0]), list(order)) for order in shapes if shapes[order] is not None]
    if not found:
        return None
    waste, numbers = min(found)
    return (numbers, as_pair(waste), shapes[tuple(numbers)][1])
