"""Orders of wares: which go one behind another with the least waste."""

from batchpipe.fractions import below, sum_of, times
from batchpipe.pipe import are_apart, end_of, half_between


def waste_between(pipe, one, other):
    if are_apart(pipe, one, other):
        return None
    return times((2, 1), half_between(pipe, one, other, end_of(pipe), False))


# Each waste is reckoned once here, and not anew for each order that is tried.
def wastes_of(pipe, wares):
    return [wastes_from(pipe, one, wares) for one in wares]


def wastes_from(pipe, one, wares):
    return [waste_between(pipe, one, other) for other in wares]


def steps_from(wastes, one, rest):
    return [(number, wastes[one][number]) for number in rest if wastes[one][number] is not None]


def least_of(choices):
    best = None
    for what, waste in choices:
        # Of several with the least waste the first one is kept.
        if best is None or below(waste, best[1]):
            best = (what, waste)
    return best


def least_order(pipe, wares):
    # One row more, of a beginning behind which each ware may come without waste.
    wastes = wastes_of(pipe, wares) + [[(0, 1) for ware in wares]]
    return least_behind(wastes, len(wares), tuple(range(len(wares))), {})


# The rest rises, so of several orders with the least waste the first one found is the one whose list is least.
def least_behind(wastes, last, rest, known):
    if not rest:
        return ([], (0, 1))
    if (last, rest) not in known:
        orders = []
        for number, step in steps_from(wastes, last, rest):
            order = least_behind(wastes, number, tuple([other for other in rest if other != number]), known)
            if order is not None:
                orders.append(([number] + order[0], sum_of(step, order[1])))
        known[(last, rest)] = least_of(orders)
    return known[(last, rest)]


def tree_of(pipe, wares):
    wastes = wastes_of(pipe, wares)
    numbers = list(range(len(wares)))
    reached = numbers[:1]
    rest = numbers[1:]
    pairs = []
    weight = (0, 1)
    while rest:
        step = least_of(steps_between(wastes, reached, rest))
        if step is None:
            return None
        one, other = step[0]
        pairs.append((min(one, other), max(one, other)))
        weight = sum_of(weight, step[1])
        reached.append(other)
        rest.remove(other)
    return (sorted(pairs), weight)


def steps_between(wastes, reached, rest):
    steps = []
    for one in reached:
        steps.extend([((one, other), waste) for other, waste in steps_from(wastes, one, rest)])
    return steps


def near_order(pipe, wares):
    wastes = wastes_of(pipe, wares)
    numbers = list(range(len(wares)))
    order = numbers[:1]
    rest = numbers[1:]
    whole = (0, 1)
    while rest:
        step = least_of(steps_from(wastes, order[-1], rest))
        if step is None:
            return None
        order.append(step[0])
        rest.remove(step[0])
        whole = sum_of(whole, step[1])
    return (order, whole)
