"""What lies in a pipe: stretches of wares, where they meet, and the pigs that ride along."""

from batchpipe.errors import BadFill, Touch
from batchpipe.pipe import end_of, first_apart, like_pipe


class Content:
    def __init__(self, pipe, fill):
        if sum([volume for ware, volume in fill]) != end_of(pipe):
            raise BadFill("the volumes of the fill are not as much as the pipe holds")
        pair = first_apart(pipe, [(near[0], far[0]) for near, far in zip(fill, fill[1:])])
        if pair is not None:
            raise Touch(pair)
        self.pipe = like_pipe(pipe)
        # The field pipe may be changed by whoever was told it, so all is reckoned by another one.
        self.own_pipe = like_pipe(pipe)
        self.lying = joined(newly_met(fill))
        self.riding = []


# What lies in a row is kept as triples (ware, volume, since): since is that of the meeting
# with the one ahead, so the very first one's is never asked for.
def newly_met(fill):
    row = []
    place = 0
    for ware, volume in fill:
        row.append((ware, volume, place))
        place += volume
    return row


def joined(row):
    found = []
    for ware, volume, since in row:
        if found and found[-1][0] == ware:
            found[-1] = (ware, found[-1][1] + volume, found[-1][2])
        else:
            found.append((ware, volume, since))
    return found


def content_of(pipe, row, riding):
    content = Content(pipe, [(ware, volume) for ware, volume, since in row])
    content.lying = joined(row)
    content.riding = list(riding)
    return content


def like_content(content):
    return content_of(content.own_pipe, content.lying, content.riding)


def stretches(content):
    return [(ware, volume) for ware, volume, since in content.lying]


def meetings(content):
    found = []
    place = 0
    for near, far in zip(content.lying, content.lying[1:]):
        place += near[1]
        found.append((place, far[2]))
    return found


def pigs(content):
    return list(content.riding)


def ware_at(content, place):
    end = 0
    for ware, volume, since in content.lying:
        end += volume
        if place < end:
            return ware
    return None
