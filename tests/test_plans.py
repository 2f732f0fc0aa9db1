import itertools
import unittest

from batchpipe.errors import NoPlan, PipeError
from batchpipe.fractions import sum_of
from batchpipe.pipe import Pipe
from batchpipe.plans import planned, shape_done
from batchpipe.views import mixed_of
from batchpipe.works import Works, do_deed, like
from works_state import works_state

WARES = ["a", "b", "c", "oil"]
# Wherever two wares have gone all the way together their half is 1, times what thick tells.
TABLE = [(1, 1)]


def works_with(orders=(), tanks=(), sources=(), apart=(), thick=(), bounds=(), rooms=(10,), wares=WARES):
    """Full of oil; a source of each ware, and a tank at the end, but where others are told."""
    told = [(source[0], source[1]) for source in sources]
    kept = [(tank[0], tank[1]) for tank in tanks]
    more = [(0, ware, 1000, 0, 10) for ware in wares if (0, ware) not in told]
    end = len(rooms)
    others = [(end, ware, 0, 1000, 0, 0) for ware in wares if (end, ware) not in kept]
    pipe = Pipe(list(rooms), list(TABLE), list(thick), list(apart), (1, 1))
    return Works(pipe, [("oil", sum(rooms))], list(sources) + more, list(tanks) + others, list(bounds), list(orders))


def push(ware, volume, end=1):
    return ("push", 0, end, ware, volume, None)


def waits(count):
    return [("wait", 1)] * count


class PlanCase(unittest.TestCase):
    def assert_done(self, works, waste, deeds):
        """The deeds done one by one tell just this waste, and take all orders."""
        works = like(works)
        mixed = (0, 1)
        for deed in deeds:
            told = do_deed(works, deed)
            if deed[0] == "push":
                mixed = sum_of(mixed, mixed_of(told[1]))
        self.assertEqual(mixed, waste)
        self.assertEqual(sorted(works.taken), list(range(len(works.orders))))

    def assert_shape(self, works, batches, spacers, numbers, waste, deeds):
        before = works_state(works)
        self.assertEqual(shape_done(works, batches, spacers, numbers), (waste, deeds))
        self.assertEqual(works_state(works), before)
        self.assert_done(works, waste, deeds)

    def assert_no_shape(self, works, batches, spacers, numbers):
        before = works_state(works)
        self.assertIsNone(shape_done(works, batches, spacers, numbers))
        self.assertEqual(works_state(works), before)

    def assert_no_plan(self, works, batches, spacers):
        before = works_state(works)
        with self.assertRaises(NoPlan) as caught:
            planned(works, batches, spacers)
        self.assertIsInstance(caught.exception, PipeError)
        self.assertEqual(works_state(works), before)


class WhichOrdersAreTakenWhen(PlanCase):
    def test_no_orders_at_all(self):
        deeds = [push("a", 15), push("b", 20)]
        self.assert_shape(works_with(), [("a", 15), ("b", 20)], [], [0, 1], (4, 1), deeds)

    def test_what_has_not_come_out_wastes_nothing(self):
        self.assert_shape(works_with(), [("a", 10)], [], [0], (0, 1), [push("a", 10)])
        self.assert_shape(works_with(), [("a", 11)], [], [0], (2, 1), [push("a", 11)])

    def test_ahead_of_the_first_batch(self):
        works = works_with([(1, "oil", 5, 0, 0)], [(1, "oil", 0, 100, 5, 0)])
        self.assert_shape(works, [("a", 10)], [], [0], (0, 1), [("take", 0), push("a", 10)])

    def test_room_in_a_tank_is_made_by_an_order_ahead_of_the_batch(self):
        tanks = [(1, "oil", 0, 12, 5, 0)]
        works = works_with([(1, "oil", 3, 0, 0)], tanks)
        self.assert_shape(works, [("a", 10)], [], [0], (0, 1), [("take", 0), push("a", 10)])
        self.assert_no_shape(works_with([(1, "oil", 2, 0, 0)], tanks), [("a", 10)], [], [0])
        self.assert_no_shape(works_with([(1, "oil", 3, 1, 1)], tanks), [("a", 10)], [], [0])

    def test_between_two(self):
        works = works_with([(1, "oil", 5, 0, 0)])
        deeds = [push("a", 10), ("take", 0), push("b", 5)]
        self.assert_shape(works, [("a", 10), ("b", 5)], [], [0, 1], (0, 1), deeds)

    def test_behind_the_last_one_without_a_wait(self):
        works = works_with([(1, "a", 5, 0, 0)])
        deeds = [push("a", 9), push("a", 15), ("take", 0)]
        self.assert_shape(works, [("a", 9), ("a", 15)], [], [0, 1], (2, 1), deeds)

    def test_not_between_a_spacer_and_its_batch(self):
        works = works_with([(1, "oil", 2, 0, 0)], apart=[("a", "oil")])
        deeds = [push("b", 3), push("a", 4), ("take", 0)]
        self.assert_shape(works, [("a", 4)], [("b", 3)], [0], (0, 1), deeds)

    def test_only_behind_a_wait_as_the_tank_settles(self):
        works = works_with([(1, "oil", 5, 0, 0)], [(1, "oil", 0, 100, 0, 7)])
        # All came in at hour 1.
        self.assert_shape(works, [("a", 10)], [], [0], (0, 1), [push("a", 10)] + waits(7) + [("take", 0)])

    def test_only_behind_a_wait_as_the_day_comes(self):
        works = works_with([(1, "oil", 5, 2, 2)])
        self.assert_shape(works, [("a", 10)], [], [0], (0, 1), [push("a", 10)] + waits(47) + [("take", 0)])

    def test_waits_end_with_the_last_order(self):
        works = works_with([(1, "oil", 2, 2, 9), (1, "oil", 2, 1, 9)])
        deeds = [push("a", 10)] + waits(23) + [("take", 1)] + waits(24) + [("take", 0)]
        self.assert_shape(works, [("a", 10)], [], [0], (0, 1), deeds)

    def test_not_at_all_as_too_much_is_asked(self):
        all_of_it = works_with([(1, "oil", 10, 0, 3)])
        self.assert_shape(all_of_it, [("a", 10)], [], [0], (0, 1), [push("a", 10), ("take", 0)])
        self.assert_no_shape(works_with([(1, "oil", 11, 0, 3)]), [("a", 10)], [], [0])
        self.assert_no_plan(works_with([(1, "oil", 11, 0, 3)]), [("a", 10)], [])

    def test_not_at_all_as_its_days_are_over(self):
        # The push ends at hour 25.
        works = works_with([(1, "oil", 1, 0, 0), (1, "oil", 1, 0, 20)])
        self.assert_no_shape(works, [("a", 250)], [], [0])
        self.assert_no_plan(works, [("a", 250)], [])

    def test_not_at_all_as_there_is_no_tank(self):
        self.assert_no_shape(works_with([(1, "zinc", 1, 0, 0)]), [("a", 5)], [], [0])

    def test_not_at_all_as_the_low_would_be_passed(self):
        tanks = [(1, "oil", 3, 100, 0, 0)]
        self.assert_shape(
            works_with([(1, "oil", 7, 0, 0)], tanks), [("a", 10)], [], [0], (0, 1), [push("a", 10), ("take", 0)])
        self.assert_no_shape(works_with([(1, "oil", 8, 0, 0)], tanks), [("a", 10)], [], [0])

    def test_one_of_two_is_not_enough(self):
        works = works_with([(1, "oil", 1, 0, 0), (1, "oil", 99, 0, 1)])
        self.assert_no_shape(works, [("a", 10)], [], [0])

    def test_orders_of_other_nodes(self):
        works = works_with([(1, "oil", 4, 0, 0)], [(1, "oil", 0, 100, 4, 0)], rooms=(5, 5))
        self.assert_shape(works, [("a", 10)], [], [0], (0, 1), [("take", 0), push("a", 10, 2)])


class OneRound(PlanCase):
    def test_orders_are_gone_through_by_their_numbers(self):
        works = works_with([(1, "oil", 3, 0, 5), (1, "oil", 2, 0, 5), (1, "oil", 5, 0, 5)])
        deeds = [push("a", 10), ("take", 0), ("take", 1), ("take", 2)]
        self.assert_shape(works, [("a", 10)], [], [0], (0, 1), deeds)

    def test_an_earlier_taking_leaves_too_little_for_one(self):
        # Ahead of the first batch there are 5: order 0 leaves too little for order 1, but not for order 2.
        tanks = [(1, "oil", 0, 100, 5, 0)]
        works = works_with([(1, "oil", 4, 0, 5), (1, "oil", 2, 0, 5), (1, "oil", 1, 0, 5)], tanks)
        deeds = [("take", 0), ("take", 2), push("a", 10), ("take", 1)]
        self.assert_shape(works, [("a", 10)], [], [0], (0, 1), deeds)

    def test_an_earlier_taking_leaves_too_little_for_good(self):
        works = works_with([(1, "oil", 6, 0, 5), (1, "oil", 5, 0, 5)])
        self.assert_no_shape(works, [("a", 10)], [], [0])

    def test_a_later_number_is_taken_ahead_where_the_first_cannot_be(self):
        tanks = [(1, "oil", 0, 100, 5, 0)]
        works = works_with([(1, "oil", 6, 0, 5), (1, "oil", 5, 0, 5)], tanks)
        deeds = [("take", 1), push("a", 10), ("take", 0)]
        self.assert_shape(works, [("a", 10)], [], [0], (0, 1), deeds)

    def test_a_taking_in_the_round_opens_no_earlier_one(self):
        # An order behind another of its tank finds less in it, never more: it is as it was, or no longer can be.
        tanks = [(1, "oil", 2, 100, 8, 0)]
        works = works_with([(1, "oil", 7, 0, 5), (1, "oil", 6, 0, 5)], tanks)
        deeds = [("take", 1), push("a", 10), ("take", 0)]
        self.assert_shape(works, [("a", 10)], [], [0], (0, 1), deeds)

    def test_an_order_is_taken_once(self):
        works = works_with([(1, "oil", 1, 0, 5)], [(1, "oil", 0, 100, 5, 0)])
        deeds = [("take", 0), push("a", 5), push("b", 4)]
        self.assert_shape(works, [("a", 5), ("b", 4)], [], [0, 1], (0, 1), deeds)


class TheLastHour(PlanCase):
    """The push ends at hour 1, L is 1, so waits go on up to hour 48."""

    def works(self, settle, rate=10, more=()):
        orders = [(1, "oil", 5, 0, 1)] + list(more)
        return works_with(orders, [(1, "oil", 0, 100, 0, settle)], [(0, "a", 100, 0, rate)])

    def test_a_wait_that_ends_just_at_the_end(self):
        self.assert_shape(self.works(47), [("a", 10)], [], [0], (0, 1), [push("a", 10)] + waits(47) + [("take", 0)])
        self.assert_shape(self.works(46), [("a", 10)], [], [0], (0, 1), [push("a", 10)] + waits(46) + [("take", 0)])

    def test_one_hour_more_is_too_much(self):
        self.assert_no_shape(self.works(48), [("a", 10)], [], [0])
        self.assert_no_plan(self.works(48), [("a", 10)], [])

    def test_a_wait_that_ends_beyond_the_end(self):
        # The push ends at hour 5 / 2: hour 95 / 2 comes, then 97 / 2, which is late.
        deeds = [push("a", 10)] + waits(45) + [("take", 0)]
        self.assert_shape(self.works(45, 4), [("a", 10)], [], [0], (0, 1), deeds)
        self.assert_no_shape(self.works(46, 4), [("a", 10)], [], [0])

    def test_the_greatest_last_day_of_all_orders_counts(self):
        # Order 0 is over by hour 48, whatever is waited for.
        more = [(1, "oil", 1, 0, 3)]
        self.assert_no_shape(self.works(48, 10, more), [("a", 10)], [], [0])
        later = works_with([(1, "oil", 1, 0, 3), (1, "oil", 5, 0, 1)], [(1, "oil", 0, 100, 0, 47)])
        deeds = [push("a", 10)] + waits(47) + [("take", 0), ("take", 1)]
        self.assert_shape(later, [("a", 10)], [], [0], (0, 1), deeds)

    def test_no_wait_where_the_hour_is_the_last_one_already(self):
        # The push ends at hour 48 just.
        works = works_with([(1, "oil", 5, 0, 1)], [], [(0, "a", 1000, 0, 5)])
        self.assert_shape(works, [("a", 240)], [], [0], (2, 1), [push("a", 240), ("take", 0)])
        self.assert_no_shape(works, [("a", 241)], [], [0])

    def test_the_last_day_may_be_20(self):
        works = works_with([(1, "oil", 5, 20, 20)])
        self.assert_shape(works, [("a", 10)], [], [0], (0, 1), [push("a", 10)] + waits(479) + [("take", 0)])
        works = works_with([(1, "oil", 5, 0, 20)], [(1, "oil", 0, 100, 0, 503)])
        self.assert_shape(works, [("a", 10)], [], [0], (0, 1), [push("a", 10)] + waits(503) + [("take", 0)])


class FromAWorksInUse(PlanCase):
    def test_its_hour_its_pipe_and_its_taken_orders_are_gone_on_from(self):
        works = works_with([(1, "oil", 3, 0, 0), (1, "oil", 2, 0, 1)], [(1, "oil", 0, 100, 4, 0)])
        do_deed(works, ("push", 0, 1, "b", 4, None))
        do_deed(works, ("take", 0))
        do_deed(works, ("wait", 30))
        deeds = [("take", 1), push("a", 7)]
        before = works_state(works)
        self.assertEqual(shape_done(works, [("a", 7)], [], [0]), ((2, 1), deeds))
        self.assertEqual(planned(works, [("a", 7)], []), ([0], (2, 1), deeds))
        self.assertEqual(works_state(works), before)
        self.assert_done(works, (2, 1), deeds)

    def test_all_orders_taken_already(self):
        works = works_with([(1, "oil", 3, 0, 0)], [(1, "oil", 0, 100, 4, 0)])
        do_deed(works, ("take", 0))
        do_deed(works, ("wait", 99))
        self.assert_shape(works, [("a", 7)], [], [0], (0, 1), [push("a", 7)])

    def test_pigs_in_the_pipe(self):
        pipe = Pipe([10], [(1, 1)], [], [], (1, 2))
        works = Works(pipe, [("oil", 10)], [(0, "a", 99, 0, 1), (0, "b", 99, 0, 1)], [], [], [])
        do_deed(works, ("push", 0, 1, "a", 5, 3))
        # The half where the pig goes is half as great; no pig goes with the batch.
        self.assertEqual(shape_done(works, [("b", 16)], [], [0]), ((3, 1), [push("b", 16)]))


class SpacersInShapes(PlanCase):
    def test_the_first_spacer_that_may_lie_between(self):
        works = works_with(apart=[("a", "oil"), ("b", "a")])
        deeds = [push("c", 2), push("a", 6)]
        self.assert_shape(works, [("a", 6)], [("b", 3), ("c", 2), ("c", 1)], [0], (0, 1), deeds)

    def test_no_spacer_where_none_is_needed(self):
        works = works_with(apart=[("a", "b")])
        deeds = [push("a", 6), push("c", 4)]
        self.assert_shape(works, [("a", 6), ("c", 4)], [("b", 3)], [0, 1], (0, 1), deeds)

    def test_the_waste_of_spacers_counts(self):
        works = works_with(apart=[("a", "b")])
        deeds = [push("a", 12), push("c", 3), push("b", 20)]
        # oil and a, a and c, c and b; the last two are one mixed stretch of 5, from 1 ahead of c to 1 behind it.
        self.assert_shape(works, [("a", 12), ("b", 20)], [("c", 3)], [0, 1], (6, 1), deeds)

    def test_a_spacer_is_refused(self):
        works = works_with(apart=[("a", "b"), ("a", "c")])
        self.assert_no_shape(works, [("a", 12), ("b", 20)], [("c", 3)], [0, 1])
        self.assert_no_shape(works, [("a", 12), ("b", 20)], [], [0, 1])
        self.assert_no_plan(works, [("a", 12), ("b", 20)], [("c", 3)])

    def test_a_spacers_push_is_refused_as_it_has_no_source(self):
        works = works_with(apart=[("a", "b")], wares=["a", "b", "oil"])
        self.assert_no_shape(works, [("a", 12), ("b", 20)], [("c", 3)], [0, 1])
        # The first that may lie between is meant, whether it can be had or not.
        self.assert_no_shape(works, [("a", 12), ("b", 20)], [("c", 3), ("oil", 3)], [0, 1])
        deeds = [push("a", 12), push("oil", 3), push("b", 2)]
        self.assert_shape(works, [("a", 12), ("b", 2)], [("oil", 3), ("c", 3)], [0, 1], (2, 1), deeds)

    def test_a_spacers_push_is_refused_as_its_source_is_low(self):
        for level, holds in [(8, True), (7, False)]:
            works = works_with(apart=[("a", "b")], sources=[(0, "c", level, 5, 10)])
            done = shape_done(works, [("a", 12), ("b", 2)], [("c", 3)], [0, 1])
            self.assertEqual(done is not None, holds)

    def test_a_spacers_push_is_refused_as_a_tank_is_full(self):
        for high, holds in [(8, True), (7, False)]:
            works = works_with(apart=[("a", "oil")], tanks=[(1, "oil", 0, high, 2, 0)])
            done = shape_done(works, [("a", 2)], [("b", 4)], [0])
            self.assertEqual(done is not None, holds)

    def test_twenty_spacers(self):
        works = works_with(apart=[("a", "oil"), ("b", "a")])
        spacers = [("b", 3)] * 19 + [("c", 2)]
        self.assert_shape(works, [("a", 6)], spacers, [0], (0, 1), [push("c", 2), push("a", 6)])


class PushesThatAreRefused(PlanCase):
    def test_no_source(self):
        works = works_with(wares=["a", "oil"])
        self.assert_no_shape(works, [("b", 3)], [], [0])
        self.assert_no_plan(works, [("b", 3)], [])

    def test_a_source_of_another_node_is_none(self):
        works = works_with(rooms=(5, 5), wares=["a", "oil"], sources=[(1, "b", 99, 0, 1)])
        self.assert_no_shape(works, [("b", 3)], [], [0])

    def test_the_source_is_low(self):
        for level, holds in [(12, True), (11, False)]:
            works = works_with(sources=[(0, "a", level, 2, 1)])
            self.assertEqual(shape_done(works, [("a", 4), ("a", 6)], [], [0, 1]) is not None, holds)

    def test_a_tank_is_full(self):
        works = works_with(tanks=[(1, "oil", 0, 9, 0, 0)])
        self.assert_shape(works, [("a", 9)], [], [0], (0, 1), [push("a", 9)])
        self.assert_no_shape(works, [("a", 10)], [], [0])

    def test_the_last_one_alone_is_refused(self):
        works = works_with(tanks=[(1, "oil", 0, 9, 0, 0)])
        self.assert_no_shape(works, [("a", 9), ("b", 1)], [], [0, 1])


class Planned(PlanCase):
    def all_shapes(self, works, batches, spacers):
        orders = [list(order) for order in itertools.permutations(range(len(batches)))]
        return [(order, shape_done(works, batches, spacers, order)) for order in orders]

    def test_the_least_waste(self):
        # a and b mix much, c goes between with little.
        works = works_with(thick=[("a", "b", 3)])
        batches = [("a", 15), ("b", 15), ("c", 15)]
        done = self.all_shapes(works, batches, [])
        self.assertEqual([waste[0] for order, (waste, deeds) in done], [10, 6, 10, 6, 10, 10])
        deeds = [push("a", 15), push("c", 15), push("b", 15)]
        self.assertEqual(planned(works, batches, []), ([0, 2, 1], (6, 1), deeds))

    def test_of_several_the_one_whose_list_is_least(self):
        works = works_with()
        batches = [("c", 15), ("b", 15), ("a", 15)]
        self.assertEqual(planned(works, batches, [])[:2], ([0, 1, 2], (6, 1)))
        self.assertEqual(planned(works, [("a", 3)] * 5, [])[:2], ([0, 1, 2, 3, 4], (2, 1)))

    def test_of_several_the_least_that_holds(self):
        # Order 0 is of a, by the end of day 0: only what goes first comes in time.
        works = works_with([(1, "a", 5, 0, 0)], sources=[(0, "a", 99, 0, 1), (0, "b", 99, 0, 1)])
        batches = [("b", 15), ("a", 20)]
        self.assertIsNone(shape_done(works, batches, [], [0, 1]))
        deeds = [push("a", 20), ("take", 0), push("b", 15)]
        self.assertEqual(planned(works, batches, []), ([1, 0], (4, 1), deeds))

    def test_a_shape_with_more_waste_where_the_least_does_not_hold(self):
        works = works_with(
            [(1, "a", 5, 0, 0)], thick=[("a", "oil", 4)], sources=[(0, "a", 99, 0, 1), (0, "b", 99, 0, 1)])
        batches = [("a", 20), ("b", 15)]
        # b first would waste less, but a came too late then.
        self.assertIsNone(shape_done(works, batches, [], [1, 0]))
        self.assertEqual(planned(works, batches, [])[:2], ([0, 1], (10, 1)))
        late = works_with([(1, "a", 5, 0, 9)], thick=[("a", "oil", 4)])
        self.assertEqual(planned(late, batches, [])[:2], ([1, 0], (4, 1)))

    def test_shapes_that_stop_at_different_batches(self):
        works = works_with(apart=[("a", "b"), ("b", "oil")])
        batches = [("b", 5), ("a", 5), ("c", 5)]
        done = self.all_shapes(works, batches, [])
        self.assertEqual([order for order, answer in done if answer is not None], [[1, 2, 0]])
        self.assertEqual(planned(works, batches, [])[0], [1, 2, 0])

    def test_one_batch(self):
        self.assertEqual(planned(works_with(), [("a", 12)], []), ([0], (2, 1), [push("a", 12)]))

    def test_no_batches(self):
        # Beyond what is asked for, but nothing that is handed in is changed by it.
        works = works_with([(1, "oil", 5, 0, 1), (1, "oil", 1, 1, 1)], [(1, "oil", 0, 100, 6, 0)])
        deeds = [("take", 0)] + waits(24) + [("take", 1)]
        self.assert_shape(works, [], [], [], (0, 1), deeds)
        self.assertEqual(planned(works, [], []), ([], (0, 1), deeds))
        self.assertEqual(works.taken, [])

    def test_five_batches_and_all_bounds(self):
        orders = [(1, "abco"[k % 4].replace("o", "oil"), 1 + k % 3, 20 if k % 2 else 0, 20) for k in range(20)]
        works = works_with(orders, apart=[("a", "b"), ("c", "oil")], thick=[("a", "c", 2)])
        batches = [("a", 30), ("b", 31), ("c", 32), ("a", 33), ("b", 34)]
        spacers = [("a", 2)] * 9 + [("b", 2)] * 9 + [("oil", 3), ("c", 1)]
        numbers, waste, deeds = planned(works, batches, spacers)
        self.assert_done(works, waste, deeds)
        self.assertEqual(shape_done(works, batches, spacers, numbers), (waste, deeds))
        self.assertEqual(len([deed for deed in deeds if deed[0] == "take"]), 20)
        for order in itertools.islice(itertools.permutations(range(5)), 0, 120, 7):
            done = shape_done(works, batches, spacers, list(order))
            if done is not None:
                self.assertGreaterEqual(done[0][0] * waste[1], waste[0] * done[0][1])

    def test_no_plan_for_five_batches(self):
        orders = [(1, "oil", 1, 20, 20)] * 2 + [(1, "a", 10 ** 6, 20, 20)]
        self.assert_no_plan(works_with(orders), [(ware, 30) for ware in ["a", "b", "c", "a", "b"]], [])

    def test_wastes_that_are_no_whole_numbers(self):
        pipe = Pipe([7], [(3, 1), (10, 2)], [("a", "b", 1)], [], (1, 1))
        sources = [(0, "a", 99, 0, 3), (0, "b", 99, 0, 7)]
        works = Works(pipe, [("oil", 7)], sources, [], [], [])
        # Half at 7 is 1 and 4 / 7.
        self.assertEqual(planned(works, [("b", 20), ("a", 20)], [])[:2], ([0, 1], (44, 7)))


if __name__ == "__main__":
    unittest.main()
