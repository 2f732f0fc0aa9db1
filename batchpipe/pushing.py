"""Pushing a ware in at one node, so that as much comes out at another one."""

from batchpipe.content import content_of
from batchpipe.errors import NoWay, Touch
from batchpipe.moving import cut, moving_row
from batchpipe.pipe import end_of, half_between, is_way, place_of
from batchpipe.touching import first_touch


def check_way(pipe, i, j):
    if not is_way(pipe, i, j):
        raise NoWay("the pipe has no way between these nodes")


def pushed(content, i, j, ware, volume, pig=None):
    pipe = content.own_pipe
    check_way(pipe, i, j)
    pair = first_touch(content, i, j, ware, volume)
    if pair is not None:
        raise Touch(pair)
    a = place_of(pipe, i)
    b = place_of(pipe, j)
    row = moving_row(content, a, b, ware, volume)
    moved = moved_pigs(content, a, b, volume, pig)
    later = later_content(content, a, b, row, volume, moved)
    out = out_of(pipe, cut(row, b - a, b - a + volume), b, [place for place, number in moved])
    return (later, out, [number for place, number in reversed(moved) if place >= b])


def moved_pigs(content, a, b, volume, pig):
    moving = [(place, number) for place, number in content.riding if a <= place < b]
    if pig is not None:
        moving.insert(0, (a, pig))
    return [(place + volume, number) for place, number in moving]


def later_content(content, a, b, row, volume, moved):
    ahead = cut(content.lying, 0, a)
    left = cut(row, 0, b - a)
    behind = cut(content.lying, b, end_of(content.own_pipe))
    if behind:
        ware, length, since = behind[0]
        if since is None or row[-1][1] <= volume:
            since = b
        behind[0] = (ware, length, since)
    riding = [(place, number) for place, number in content.riding if place < a]
    riding.extend([(place, number) for place, number in moved if place < b])
    riding.extend([(place, number) for place, number in content.riding if place >= b])
    return content_of(content.own_pipe, ahead + left + behind, riding)


def out_of(pipe, gone, b, pig_places):
    out = []
    place = b + sum([volume for ware, volume, since in gone])
    since_ahead = None
    for ware, volume, since in reversed(gone):
        half = (0, 1)
        if out:
            half = half_between(pipe, ware, out[-1][0], b - since_ahead, place in pig_places)
        out.append((ware, volume, half))
        place -= volume
        since_ahead = since
    return out
