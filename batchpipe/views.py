"""What lies in the pipe, or came out of it, pure and mixed."""

from batchpipe.content import stretches
from batchpipe.fractions import below, greater, less_by, lesser, sum_of
from batchpipe.pipe import half_between
from batchpipe.shares import add_amount, together


def told(content):
    return view_of(stretches(content), halves_of(content))


def told_out(out):
    row = [(ware, volume) for ware, volume, half in out]
    return view_of(row, [half for ware, volume, half in out[1:]])


def halves_of(content):
    pig_places = [place for place, number in content.riding]
    halves = []
    place = 0
    for near, far in zip(content.lying, content.lying[1:]):
        place += near[1]
        halves.append(half_between(content.own_pipe, near[0], far[0], place - far[2], place in pig_places))
    return halves


def ends_of(row):
    ends = []
    place = 0
    for ware, volume in row:
        place += volume
        ends.append((place, 1))
    return ends


# A meeting with a half of 0 has a span without length: a border between two pure ones,
# unless another span has it within.
def spans_of(ends, halves):
    spans = []
    for place, half in zip(ends, halves):
        start = greater(less_by(place, half), (0, 1))
        stop = lesser(sum_of(place, half), ends[-1])
        # Each span reaches to its own meeting at least, so only the last ones can reach into this one.
        while spans and below(start, spans[-1][1]):
            last = spans.pop()
            start = lesser(start, last[0])
            stop = greater(stop, last[1])
        spans.append((start, stop))
    return spans + [(ends[-1], ends[-1])]


def with_pure_rest(spans):
    found = []
    place = (0, 1)
    for start, stop in spans:
        if below(place, start):
            found.append((place, start))
        if below(start, stop):
            found.append((start, stop))
        place = stop
    return found


def view_of(row, halves):
    view = []
    ends = ends_of(row)
    number = 0
    for start, stop in with_pure_rest(spans_of(ends, halves)):
        amounts = {}
        place = start
        while below(place, stop):
            upto = lesser(stop, ends[number])
            add_amount(amounts, row[number][0], less_by(upto, place))
            if upto == ends[number]:
                number += 1
            place = upto
        view.append((start, stop, sorted(amounts.items())))
    return view


def mixed_of(view):
    mixed = (0, 1)
    for start, stop, shares in view:
        if len(shares) > 1:
            mixed = sum_of(mixed, less_by(stop, start))
    return mixed


def amounts_of(view):
    return together([shares for start, stop, shares in view])
