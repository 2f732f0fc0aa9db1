"""Spacers: wares that are pushed between two that must not touch."""

from batchpipe.errors import NoSpacer
from batchpipe.pipe import first_apart, place_of
from batchpipe.pushing import check_way, pushed
from batchpipe.touching import pairs_ahead, pairs_at_first


def spacer_for(content, i, j, ware, spacers):
    pipe = content.own_pipe
    check_way(pipe, i, j)
    a = place_of(pipe, i)
    if first_apart(pipe, pairs_at_first(content, a, ware)) is None:
        return None
    for spacer, volume in spacers:
        # Within the pipe the ware comes to lie behind what is ahead of the node, whatever spacer went in before it.
        pairs = pairs_at_first(content, a, spacer) + [(ware, spacer)] + pairs_ahead(content, a, ware)
        if first_apart(pipe, pairs) is None:
            return (spacer, volume)
    raise NoSpacer("none of the spacers may lie between")


def pushes_for(content, i, j, ware, volume, spacers):
    spacer = spacer_for(content, i, j, ware, spacers)
    return [(ware, volume)] if spacer is None else [spacer, (ware, volume)]


def sent(content, i, j, ware, volume, spacers):
    later = content
    outs = []
    for batch, amount in pushes_for(content, i, j, ware, volume, spacers):
        later, out, caught = pushed(later, i, j, batch, amount)
        outs.append(out)
    return (later, outs)
