"""Holds shapes and plans against the slow reckoning of all shapes, over many drawn works."""
import random
import unittest
from fractions import Fraction

from batchpipe.errors import NoPlan
from batchpipe.plans import planned, shape_done
from batchpipe.tanks import level_of
from batchpipe.views import mixed_of
from batchpipe.works import Works, do_deed, like
from drawing import drawn_plan, pipe_of
from slow_plans import slow_plan, slow_shapes
from slow_works import SlowWorks
from works_state import works_state


class DrawnPlans(unittest.TestCase):
    def assert_true_of_deeds(self, works, waste, deeds):
        """What is promised to whoever does the deeds of a shape that holds."""
        works = like(works)
        mixed = Fraction(0)
        for deed in deeds:
            told = do_deed(works, deed)
            if deed[0] == "push":
                mixed += Fraction(*mixed_of(told[1]))
            if deed[0] == "take":
                node, ware, volume, first, last = works.orders[deed[1]]
                tank = [tank for where, tank in works.tanks if (where, tank.ware) == (node, ware)][0]
                self.assertGreaterEqual(Fraction(*level_of(tank)), tank.low)
                self.assertTrue(24 * first <= Fraction(*works.hour) <= 24 * last + 24)
            for node, tank in works.tanks:
                self.assertLessEqual(Fraction(*level_of(tank)), tank.high)
        self.assertEqual(sorted(works.taken), list(range(len(works.orders))))
        self.assertEqual(mixed, Fraction(*waste))

    def words_of(self, numbers, deeds, batches):
        """Words for what a plan has in it."""
        kinds = [deed[0] for deed in deeds]
        last = max(place for place, kind in enumerate(kinds) if kind == "push")
        found = {"a take ahead of all": kinds[0] == "take", "a wait": "wait" in kinds}
        found["a take between"] = "take" in kinds[kinds.index("push"):last]
        found["a spacer"] = kinds.count("push") > len(batches)
        found["another order"] = numbers != sorted(numbers)
        found["no orders"] = kinds.count("take") == 0
        return [word for word, there in found.items() if there]

    def test_many_drawn_ones(self):
        draw = random.Random(21)
        count = {}
        for number in range(500):
            fields, fill, parts, batches, spacers = drawn_plan(draw)
            works = Works(pipe_of(fields), fill, *parts)
            before = works_state(works)
            shapes = slow_shapes(SlowWorks(fields, fill, *parts), batches, spacers)
            with self.subTest(number=number):
                words = []
                for order, wanted in shapes.items():
                    self.assertEqual(shape_done(works, batches, spacers, list(order)), wanted)
                    words.append("none" if wanted is None else "holds")
                    if wanted is not None:
                        self.assert_true_of_deeds(works, *wanted)
                plan = slow_plan(shapes)
                if plan is None:
                    words.append("no plan")
                    with self.assertRaises(NoPlan):
                        planned(works, batches, spacers)
                else:
                    self.assertEqual(planned(works, batches, spacers), plan)
                    wastes = [wanted[0] for wanted in shapes.values() if wanted is not None]
                    words.extend(self.words_of(plan[0], plan[2], batches))
                    words.append("several" if wastes.count(plan[1]) > 1 else "one")
                    words.append("some do not hold" if None in shapes.values() else "all hold")
                self.assertEqual(works_state(works), before)
            for word in words:
                count[word] = count.get(word, 0) + 1
        for word, least in [
            ("none", 200), ("holds", 200), ("no plan", 50), ("a take ahead of all", 10), ("a take between", 10),
            ("a wait", 30), ("a spacer", 10), ("another order", 20), ("no orders", 10), ("several", 10), ("one", 10),
            ("some do not hold", 20), ("all hold", 20),
        ]:
            self.assertGreaterEqual(count.get(word, 0), least, word)


if __name__ == "__main__":
    unittest.main()
