"""Holds works, deeds and spacers against the slow reckoning, over many drawn ones."""
import copy
import random
import unittest
from fractions import Fraction

from batchpipe.content import Content
from batchpipe.errors import BadDeed, NoSpacer, NoWay, Touch
from batchpipe.spacers import sent, spacer_for
from batchpipe.tanks import level_of
from batchpipe.works import Works, account_of, do_deed, like
from drawing import WARES, drawn_bounds, drawn_deed, drawn_orders, drawn_pipe_and_fill, drawn_push, drawn_sources
from drawing import drawn_spacers, drawn_tanks, pipe_of
from slow_pipe import SlowPipe, SlowTouch
from slow_works import SlowRefused, SlowWorks, slow_spacer
from works_state import fast_state, lying_state, works_state

WORDS = ["way", "source", "touch", "low", "high", "order", "tank", "early", "late", "settle"]


def goals_of_mixed(told):
    """Of each mixed triple, whether the tank of its greatest share took it."""
    words = []
    for (start, stop, shares), goal in zip(told[1], told[2]):
        greatest = max(Fraction(*amount) for ware, amount in shares)
        wares = [ware for ware, amount in shares if Fraction(*amount) == greatest]
        if len(shares) > 1:
            words.append("to slop" if goal is None else "to its own tank" if goal == wares[0] else "to another tank")
    return words


class DrawnWorks(unittest.TestCase):
    def do_both(self, works, slow, deed):
        """The slow works behind the deed, and words for what came of it."""
        before = works_state(works)
        later = copy.deepcopy(slow)
        try:
            wanted = later.do(deed)
        except SlowRefused as refused:
            with self.assertRaises(BadDeed) as caught:
                do_deed(works, deed)
            self.assertEqual(caught.exception.word, refused.word)
            self.assertEqual(works_state(works), before)
            return slow, [refused.word]
        self.assertEqual(do_deed(works, deed), wanted)
        self.assertEqual(fast_state(works), later.state())
        return later, [deed[0]] + (goals_of_mixed(wanted) if deed[0] == "push" else [])

    def assert_kept(self, works, first):
        """What holds at each time: all is accounted for, and no tank is above its high."""
        for ware, given, piped, tanked, slopped, handed in account_of(works):
            there = sum(Fraction(*side) for side in [piped, tanked, slopped, handed])
            self.assertEqual(Fraction(*given) + first[ware], there)
        for node, tank in works.tanks:
            self.assertLessEqual(Fraction(*level_of(tank)), tank.high)

    def run_drawn(self, seed, rounds, turns, most_apart):
        draw = random.Random(seed)
        count = {}
        for number in range(rounds):
            fields, fill = drawn_pipe_and_fill(draw, most_apart)
            drawn = [drawn_sources, drawn_tanks, drawn_bounds, drawn_orders]
            parts = [part(draw, WARES, len(fields[0])) for part in drawn]
            works = Works(pipe_of(fields), fill, *parts)
            slow = SlowWorks(fields, fill, *parts)
            first = {row[0]: Fraction(*row[2]) + Fraction(*row[3]) for row in account_of(works)}
            with self.subTest(seed=seed, number=number):
                self.assertEqual(fast_state(works), slow.state())
                for turn in range(turns):
                    deed = drawn_deed(draw, WARES, fields[0], parts[0], len(parts[3]))
                    if draw.random() < 0.2:
                        works = like(works)
                    slow, words = self.do_both(works, slow, deed)
                    self.assert_kept(works, first)
                    for word in words:
                        count[word] = count.get(word, 0) + 1
        return count

    def test_many_drawn_deeds(self):
        count = self.run_drawn(11, 170, 24, 2)
        for what in WORDS + ["push", "wait", "take"]:
            self.assertGreater(count.get(what, 0), 30, what)
        for what in ["to its own tank", "to another tank", "to slop"]:
            self.assertGreater(count.get(what, 0), 30, what)

    def test_wares_that_all_may_touch(self):
        count = self.run_drawn(12, 60, 30, 0)
        self.assertNotIn("touch", count)
        self.assertGreater(count["push"], 400)


class DrawnSpacers(unittest.TestCase):
    def sent_slowly(self, slow, i, j, ware, volume, spacer):
        outs = []
        for name, amount in ([] if spacer is None else [spacer]) + [(ware, volume)]:
            slow, out, caught = slow.pushed(i, j, name, amount, None)
            outs.append(out)
        return slow, outs

    def ware_that_clashes(self, draw, slow, i):
        """Often, and where there is one, a ware that must not touch the one behind the node."""
        behind = slow.units[slow.places[i]]
        clashing = [ware for ware in WARES if frozenset((ware, behind)) in slow.apart]
        return draw.choice(clashing) if clashing and draw.random() < 0.7 else None

    def test_many_drawn_ones(self):
        draw = random.Random(13)
        count = {"none is needed": 0, "a spacer": 0, "no spacer": 0, "touch": 0, "sent": 0}
        for number in range(1500):
            fields, fill = drawn_pipe_and_fill(draw, 4)
            slow = SlowPipe(*fields, fill)
            content = Content(pipe_of(fields), fill)
            i, j, ware, volume, pig = drawn_push(draw, WARES, fields[0])
            ware = self.ware_that_clashes(draw, slow, i) or ware
            spacers = drawn_spacers(draw, WARES)
            before = lying_state(content)
            spacer = slow_spacer(slow, i, ware, spacers)
            with self.subTest(number=number):
                if spacer == "none":
                    count["no spacer"] += 1
                    for ask in [lambda: spacer_for(content, i, j, ware, spacers),
                                lambda: sent(content, i, j, ware, volume, spacers)]:
                        with self.assertRaises(NoSpacer):
                            ask()
                    continue
                count["none is needed" if spacer is None else "a spacer"] += 1
                self.assertEqual(spacer_for(content, i, j, ware, spacers), spacer)
                try:
                    wanted, outs = self.sent_slowly(slow, i, j, ware, volume, spacer)
                except SlowTouch as touch:
                    count["touch"] += 1
                    with self.assertRaises(Touch) as caught:
                        sent(content, i, j, ware, volume, spacers)
                    self.assertEqual(caught.exception.pair, touch.pair)
                else:
                    count["sent"] += 1
                    later, gone = sent(content, i, j, ware, volume, spacers)
                    self.assertEqual(lying_state(later), (wanted.stretches(), wanted.meetings(), wanted.pigs()))
                    self.assertEqual(gone, outs)
                self.assertEqual(lying_state(content), before)
                with self.assertRaises(NoWay):
                    spacer_for(content, j, i, ware, spacers)
        for what, times in count.items():
            self.assertGreater(times, 20, what)


if __name__ == "__main__":
    unittest.main()
