"""The row that a push moves: what is pushed in and, nearer to the end, what lay between the two nodes."""

from batchpipe.content import ware_at


def cut(row, start, stop):
    found = []
    place = 0
    for ware, volume, since in row:
        begin = max(place, start)
        end = min(place + volume, stop)
        if begin < end:
            # One that is cut within has no meeting where it begins now.
            found.append((ware, end - begin, since if begin == place else None))
        place += volume
    return found


def moving_row(content, a, b, ware, volume):
    lay = cut(content.lying, a, b)
    first, length, since = lay[0]
    if ware == first:
        return [(ware, volume + length, since)] + lay[1:]
    # Behind its like the ware is one with it: the meeting that was at a goes on, and keeps its since.
    if a == 0 or ware_at(content, a - 1) != ware:
        since = a
    return [(ware, volume, a), (first, length, since)] + lay[1:]
