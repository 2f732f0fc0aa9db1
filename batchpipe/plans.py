"""Plans: in which order batches are sent, so that all orders are served with the least mixed."""

from batchpipe.errors import BadDeed, NoPlan, NoSpacer
from batchpipe.fractions import sum_of
from batchpipe.sequence import least_of
from batchpipe.spacers import pushes_for
from batchpipe.views import mixed_of
from batchpipe.works import do_deed, like


# What is done so far is kept as a trial (works, waste, deeds), which stays as it is:
# several shapes go on from one and the same beginning.
def shape_done(works, batches, spacers, numbers):
    trial = (works, (0, 1), [])
    for number in numbers:
        trial = with_batch(trial, batches[number], spacers)
        if trial is None:
            return None
    return ended(trial)


def planned(works, batches, spacers):
    trials = trials_behind((works, (0, 1), []), batches, spacers, list(range(len(batches))))
    left = [((numbers, trial), trial[1]) for numbers, trial in trials]
    # Nothing is wasted behind the last push, so the first one found to hold is the one that is sought.
    while left:
        best = least_of(left)
        numbers, trial = best[0]
        done = ended(trial)
        if done is not None:
            return (numbers, done[0], done[1])
        left.remove(best)
    raise NoPlan("no order of the batches serves all orders")


def trials_behind(trial, batches, spacers, rest):
    if not rest:
        return [([], trial)]
    found = []
    for number in rest:
        later = with_batch(trial, batches[number], spacers)
        if later is not None:
            others = [other for other in rest if other != number]
            for numbers, last in trials_behind(later, batches, spacers, others):
                found.append(([number] + numbers, last))
    return found


def with_batch(trial, batch, spacers):
    works = like(trial[0])
    waste = trial[1]
    deeds = list(trial[2])
    take_all(works, deeds)
    end = len(works.content.own_pipe.rooms)
    try:
        for ware, volume in pushes_for(works.content, 0, end, batch[0], batch[1], spacers):
            deed = ("push", 0, end, ware, volume, None)
            waste = sum_of(waste, mixed_of(do_deed(works, deed)[1]))
            deeds.append(deed)
    except (BadDeed, NoSpacer):
        return None
    return (works, waste, deeds)


def take_all(works, deeds):
    words = []
    for k in range(len(works.orders)):
        if k not in works.taken:
            try:
                do_deed(works, ("take", k))
            except BadDeed as refused:
                words.append(refused.word)
            else:
                deeds.append(("take", k))
    return words


def ended(trial):
    works = like(trial[0])
    deeds = list(trial[2])
    words = take_all(works, deeds)
    # Nothing comes in behind the last push, so an order that is refused for another word stays refused,
    # and each one is in the end: behind its last day it is late.
    while words and all([word in ("early", "settle") for word in words]):
        do_deed(works, ("wait", 1))
        deeds.append(("wait", 1))
        words = take_all(works, deeds)
    return None if words else (trial[1], deeds)
