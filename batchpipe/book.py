"""The book: all deeds done with a works, and what all would be, had a reading been another one."""

from batchpipe.errors import BadDeed, BadLater, NoDeed
from batchpipe.works import do_deed, like


class Book:
    def __init__(self, works):
        # The works ahead of each deed, and last the one there is now: whatever changes goes on from one of these.
        self.stages = [like(works)]
        self.done = []
        self.heard = []

    def add(self, deed):
        later, answer = one_more(self.stages[-1], deed)
        self.stages.append(later)
        self.done.append(deed)
        self.heard.append(answer)
        return own(answer)

    def put_right(self, k, volume):
        if not 0 <= k < len(self.done) or self.done[k][0] != "push":
            raise NoDeed("there is no push of this number")
        done = list(self.done)
        done[k] = done[k][:4] + (volume,) + done[k][5:]
        stages, heard = done_anew(self.stages[k], done, k)
        changed = [number for number in range(k, len(done)) if heard[number - k] != self.heard[number]]
        self.stages = self.stages[:k + 1] + stages
        self.heard = self.heard[:k] + heard
        self.done = done
        return changed

    def taken_back(self):
        if not self.done:
            raise NoDeed("there is no deed to take back")
        self.stages.pop()
        self.done.pop()
        self.heard.pop()

    def works(self):
        return like(self.stages[-1])

    def deeds(self):
        return list(self.done)

    def told(self):
        return own(self.heard)


def one_more(works, deed):
    later = like(works)
    answer = do_deed(later, deed)
    return (later, answer)


def done_anew(works, deeds, k):
    stages = []
    heard = []
    later = works
    for number in range(k, len(deeds)):
        try:
            later, answer = one_more(later, deeds[number])
        except BadDeed as refused:
            raise BadLater(number, refused.word) from None
        stages.append(later)
        heard.append(answer)
    return (stages, heard)


def own(answer):
    if isinstance(answer, list):
        return [own(part) for part in answer]
    if isinstance(answer, tuple):
        return tuple([own(part) for part in answer])
    return answer
