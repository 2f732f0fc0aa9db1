"""Shares: lists of pairs (ware, fraction), by rising ware, of how much there is of each ware."""

from batchpipe.fractions import below, sum_of, times


def add_amount(amounts, ware, more):
    amounts[ware] = sum_of(amounts.get(ware, (0, 1)), more)


def together(several):
    amounts = {}
    for shares in several:
        for ware, amount in shares:
            add_amount(amounts, ware, amount)
    return sorted(amounts.items())


def whole_of(shares):
    whole = (0, 1)
    for ware, amount in shares:
        whole = sum_of(whole, amount)
    return whole


def part_of(shares, part):
    if part == (0, 1):
        return []
    return [(ware, times(amount, part)) for ware, amount in shares]


def amount_of(shares, wanted):
    for ware, amount in shares:
        if ware == wanted:
            return amount
    return (0, 1)


def by_falling_amount(shares):
    found = []
    for ware, amount in shares:
        # Behind all that are not less: of like amounts the lesser ware stays ahead.
        place = len([other for other, more in found if not below(more, amount)])
        found.insert(place, (ware, amount))
    return found
