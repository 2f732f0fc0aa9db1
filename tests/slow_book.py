"""A slow book: all its deeds are done anew, from the first one on, with a slow works, whatever is asked."""
import copy

from slow_works import SlowRefused


class SlowNoDeed(Exception):
    pass


class SlowBadLater(Exception):
    def __init__(self, place, word):
        super().__init__(place, word)
        self.place, self.word = place, word


class SlowBook:
    def __init__(self, first):
        self.first = first
        self.deeds = []

    def anew(self, deeds):
        """The works behind these deeds, and what each told."""
        works = copy.deepcopy(self.first)
        told = []
        for place, deed in enumerate(deeds):
            try:
                told.append(works.do(deed))
            except SlowRefused as refused:
                raise SlowBadLater(place, refused.word)
        return works, told

    def works(self):
        return self.anew(self.deeds)[0]

    def told(self):
        return self.anew(self.deeds)[1]

    def add(self, deed):
        try:
            told = self.anew(self.deeds + [deed])[1]
        except SlowBadLater as refused:
            raise SlowRefused(refused.word)
        self.deeds = self.deeds + [deed]
        return told[-1]

    def put_right(self, k, volume):
        if k not in range(len(self.deeds)) or self.deeds[k][0] != "push":
            raise SlowNoDeed()
        before = self.told()
        name, i, j, ware, wrong, pig = self.deeds[k]
        deeds = self.deeds[:k] + [(name, i, j, ware, volume, pig)] + self.deeds[k + 1:]
        after = self.anew(deeds)[1]
        self.deeds = deeds
        return [number for number, (one, other) in enumerate(zip(before, after)) if one != other]

    def taken_back(self):
        if not self.deeds:
            raise SlowNoDeed()
        self.deeds = self.deeds[:-1]
