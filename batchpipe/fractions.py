"""Fractions: tuples (number, parts), parts 1 or more, in lowest terms."""


def greatest_divisor(one, other):
    while other != 0:
        rest = one % other
        one = other
        other = rest
    return one


def made(number, parts):
    divisor = greatest_divisor(abs(number), abs(parts))
    # Dividing by a number below nought turns both signs, so that parts end up above nought.
    if parts < 0:
        divisor = -divisor
    return (number // divisor, parts // divisor)


def sum_of(one, other):
    return made(one[0] * other[1] + other[0] * one[1], one[1] * other[1])


def less_by(one, other):
    return made(one[0] * other[1] - other[0] * one[1], one[1] * other[1])


def times(one, other):
    return made(one[0] * other[0], one[1] * other[1])


def below(one, other):
    return one[0] * other[1] < other[0] * one[1]


def lesser(one, other):
    return one if below(one, other) else other


def greater(one, other):
    return other if below(one, other) else one
