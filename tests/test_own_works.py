"""Spacers, tanks, works and orders: nothing that is handed in is changed, and all that is told is the asker's own."""
import copy
import unittest

from batchpipe.content import Content, stretches
from batchpipe.errors import BadDeed
from batchpipe.pipe import Pipe
from batchpipe.sequence import least_order, near_order, tree_of, waste_between
from batchpipe.spacers import sent, spacer_for
from batchpipe.tanks import Tank, level_of, may_blend, put_in, taken_out
from batchpipe.views import amounts_of, mixed_of
from batchpipe.works import Works, account_of, do_deed, like
from own_works import BOUNDS, DEEDS, FILL, LATER, ORDERS, SOURCES, TANKS, OwnCase, a_pipe, all_of, lists_of_works
from own_works import works_behind
from spoiling import lists_in, replace_fields, replace_works_fields, spoil, spoil_pipe, spoil_tank, spoil_works
from works_state import content_state, pipe_fields, tank_fields, works_state


class Spacers(OwnCase):
    def content(self):
        return Content(Pipe([4, 6], [(5, 1)], [], [("x", "u")], (1, 1)), [("u", 4), ("d", 6)])

    def test_nothing_handed_in_is_changed(self):
        content, spacers = self.content(), [("a", 3), ("b", 2)]
        before = content_state(content)
        spacer_for(content, 0, 2, "x", spacers)
        sent(content, 0, 2, "x", 7, spacers)
        self.assertEqual((content_state(content), spacers), (before, [("a", 3), ("b", 2)]))

    def test_what_is_told_may_be_changed(self):
        content, spacers = self.content(), [("a", 3), ("b", 2)]
        later, outs = sent(content, 0, 2, "x", 9, spacers)
        again, same_outs = sent(content, 0, 2, "x", 9, spacers)
        before = [content_state(content), content_state(later)]
        kept = copy.deepcopy(outs)
        self.assert_all_own(lists_in((outs, same_outs)))
        spoil(outs)
        spacers.clear()
        self.assertEqual(same_outs, kept)
        self.assertEqual([content_state(content), content_state(again)], before)

    def test_the_pipe_of_a_told_content_may_be_changed(self):
        for change in [spoil_pipe, replace_fields]:
            content = self.content()
            later = sent(content, 0, 2, "x", 7, [("a", 3)])[0]
            before = content_state(content)
            change(later.pipe)
            self.assertEqual(content_state(content), before)
            self.assertEqual(stretches(sent(content, 0, 2, "x", 7, [("a", 3)])[0]), stretches(later))
            self.assertEqual(spacer_for(content, 0, 2, "x", [("a", 3)]), ("a", 3))
            self.assertIsNone(spacer_for(later, 0, 2, "x", []))


class Tanks(OwnCase):
    def a_tank(self):
        return put_in(Tank("oil", 5, 100, 30, 2), [("gas", (10, 1)), ("tar", (1, 3))], (7, 2))

    def test_nothing_handed_in_is_changed(self):
        tank, shares, bounds = self.a_tank(), [("gas", (3, 1)), ("wax", (1, 2))], list(BOUNDS)
        before = tank_fields(tank)
        level_of(tank)
        may_blend(tank, shares, bounds)
        put_in(tank, shares, (9, 1))
        taken_out(tank, 3)
        self.assertEqual(tank_fields(tank), before)
        self.assertEqual((shares, bounds), ([("gas", (3, 1)), ("wax", (1, 2))], BOUNDS))

    def test_what_was_handed_in_may_be_changed(self):
        tank, shares = self.a_tank(), [("gas", (3, 1)), ("wax", (1, 2))]
        filled, (rest, taken), untouched = put_in(tank, shares, (9, 1)), taken_out(tank, 3), put_in(tank, [], (9, 1))
        before = copy.deepcopy([tank_fields(filled), tank_fields(rest), taken, tank_fields(untouched)])
        spoil_tank(tank)
        spoil(shares)
        self.assertEqual([tank_fields(filled), tank_fields(rest), taken, tank_fields(untouched)], before)

    def test_shares_put_in_an_empty_tank_may_be_changed(self):
        shares = [("oil", (3, 1))]
        tank = put_in(Tank("oil", 0, 9, 0, 0), shares, (1, 1))
        spoil(shares)
        self.assertEqual(tank.holds, [("oil", (3, 1))])

    def test_what_is_told_may_be_changed(self):
        tank = self.a_tank()
        before = tank_fields(tank)
        filled, (rest, taken), (none, whole) = put_in(tank, [], (9, 1)), taken_out(tank, 3), taken_out(tank, 40)
        self.assert_all_own([tank.holds, filled.holds, rest.holds, taken, none.holds, whole])
        kept = tank_fields(rest)
        spoil_tank(filled)
        spoil(taken)
        self.assertEqual((tank_fields(tank), tank_fields(rest)), (before, kept))
        spoil_tank(rest)
        self.assertEqual(tank_fields(tank), before)

    def test_two_empty_tanks_hold_lists_of_their_own(self):
        one, other = Tank("oil", 0, 9, 0, 0), Tank("oil", 0, 9, 0, 0)
        spoil_tank(one)
        self.assertEqual(other.holds, [])
        emptied = [taken_out(Tank("oil", 0, 9, 4, 0), 4)[0] for turn in range(2)]
        spoil_tank(emptied[0])
        self.assertEqual(emptied[1].holds, [])

    def test_what_was_told_may_be_handed_in(self):
        rest, shares = taken_out(self.a_tank(), 11)
        again = put_in(rest, shares, (5, 1))
        self.assertEqual(again.holds, self.a_tank().holds)
        self.assertIs(may_blend(rest, rest.holds, BOUNDS), may_blend(rest, [], BOUNDS))


class HandedInToWorks(OwnCase):
    def test_nothing_handed_in_is_changed(self):
        parts = [a_pipe(), list(FILL), list(SOURCES), list(TANKS), list(BOUNDS), list(ORDERS)]
        works = Works(*parts)
        for deed in DEEDS:
            do_deed(works, deed)
        self.assertEqual(pipe_fields(parts[0]), pipe_fields(a_pipe()))
        self.assertEqual(parts[1:], [FILL, SOURCES, TANKS, BOUNDS, ORDERS])

    def test_lists_handed_in_may_be_changed(self):
        parts = [a_pipe(), list(FILL), list(SOURCES), list(TANKS), list(BOUNDS), list(ORDERS)]
        works = Works(*parts)
        for part in parts[1:]:
            part.clear()
        self.assertEqual(all_of(works), all_of(works_behind(0)))

    def test_the_pipe_handed_in_may_be_changed(self):
        for change in [spoil_pipe, replace_fields]:
            for count in [0, 3]:
                pipe = a_pipe()
                works = Works(pipe, FILL, SOURCES, TANKS, BOUNDS, ORDERS)
                for deed in DEEDS[:count]:
                    do_deed(works, deed)
                change(pipe)
                self.assertEqual(all_of(works), all_of(works_behind(count)))

    def test_only_do_deed_changes_a_works(self):
        works = works_behind(5)
        before = works_state(works)
        like(works)
        account_of(works)
        self.assertEqual(works_state(works), before)

    def test_refused_deeds_leave_all_as_it_was(self):
        works = works_behind(5)
        before = all_of(works)
        fields = [works.content, works.sources, works.tanks, works.slops, works.taken]
        words = []
        for deed in [
            ("push", 0, 3, "oil", 3, None), ("push", 1, 2, "oil", 3, None), ("push", 0, 2, "oil", 388, None),
            ("push", 0, 2, "gas", 300, 8), ("take", 3), ("take", 0), ("take", 2),
        ]:
            with self.assertRaises(BadDeed) as caught:
                do_deed(works, deed)
            words.append(caught.exception.word)
            self.assertEqual(all_of(works), before)
        self.assertEqual(words, ["way", "source", "low", "high", "order", "order", "settle"])
        for one, other in zip(fields, [works.content, works.sources, works.tanks, works.slops, works.taken]):
            self.assertIs(one, other)


class ToldByWorks(OwnCase):
    def test_what_deeds_tell_may_be_changed(self):
        works, other = works_behind(0), works_behind(0)
        for deed in DEEDS + LATER[:2]:
            told = do_deed(works, deed)
            kept = copy.deepcopy(told)
            self.assertEqual(do_deed(other, deed), kept)
            self.assert_all_own(lists_in(told) + lists_of_works(works))
            spoil(told)
            self.assertEqual(works_state(works), works_state(other))
        self.assertEqual(all_of(works), all_of(other))

    def test_what_was_told_stays_when_the_works_goes_on(self):
        works = works_behind(0)
        told = [do_deed(works, deed) for deed in DEEDS]
        kept = copy.deepcopy(told)
        do_deed(works, LATER[0])
        spoil_works(works)
        self.assertEqual(told, kept)

    def test_what_was_read_ahead_stays(self):
        works = works_behind(2)
        same = like(works)
        read = [works.content, works.sources, works.tanks, works.slops, works.taken, works.hour]
        tanks = [tank for node, tank in works.tanks]
        wanted = [(node, tank_fields(tank)) for node, tank in same.tanks]
        for deed in DEEDS[2:]:
            do_deed(works, deed)
            self.assertEqual(content_state(read[0]), content_state(same.content))
            self.assertEqual(read[1], same.sources)
            self.assertEqual([(node, tank_fields(tank)) for node, tank in read[2]], wanted)
            self.assertEqual([tank_fields(tank) for tank in tanks], [fields for node, fields in wanted])
            self.assertEqual(read[3:], [same.slops, same.taken, same.hour])

    def test_accounts_may_be_changed(self):
        works = works_behind(5)
        before = all_of(works)
        account = account_of(works)
        self.assert_all_own([account, account_of(works)])
        spoil(account)
        self.assertEqual(all_of(works), before)

    def test_views_told_may_be_asked_on(self):
        view = do_deed(works_behind(0), DEEDS[0])[1]
        kept = copy.deepcopy(view)
        mixed_of(view)
        amounts_of(view)
        self.assertEqual(view, kept)

    def test_what_was_told_may_be_handed_in(self):
        works = works_behind(5)
        again = Works(
            works.pipe, stretches(works.content), works.sources,
            [(node, t.ware, t.low, t.high, t.start, t.settle) for node, t in works.tanks], works.bounds, works.orders)
        before, kept = all_of(works), all_of(again)
        spoil_works(works)
        self.assertEqual(all_of(again), kept)
        self.assertEqual(again.sources, before[0]["sources"])
        tank = put_in(again.tanks[0][1], again.slops[0][1] if again.slops else [("oil", (1, 1))], again.hour)
        self.assertEqual(tank.ware, "gas")


class LikeWorks(OwnCase):
    def test_no_two_lists_are_one_and_the_same(self):
        for count in [0, 2, 5, len(DEEDS)]:
            works = works_behind(count)
            same, again = like(works), like(works)
            self.assertEqual(bool(works.slops), count > 1)
            self.assert_all_own(lists_of_works(works) + lists_of_works(same) + lists_of_works(again))

    def test_either_may_be_changed_behind(self):
        for change in [spoil_works, replace_works_fields]:
            for count in [0, 2, 5, len(DEEDS)]:
                works = works_behind(count)
                before = all_of(works)
                same, again = like(works), like(like(works))
                change(works)
                self.assertEqual((all_of(same), all_of(again)), (before, before))
                change(same)
                self.assertEqual(all_of(again), before)

    def test_what_was_read_of_a_changed_works_stays(self):
        for change in [spoil_works, replace_works_fields]:
            works = works_behind(5)
            content = works.content
            account, before = account_of(works), content_state(content)
            kept = copy.deepcopy(account)
            change(works)
            self.assertEqual((account, content_state(content)), (kept, before))

    def test_a_works_whose_pipe_was_changed_goes_on(self):
        for change in [spoil_pipe, replace_fields]:
            works, other = works_behind(2), works_behind(2)
            change(works.pipe)
            for deed in DEEDS[2:]:
                self.assertEqual(do_deed(works, deed), do_deed(other, deed))
            self.assertEqual(all_of(like(works)), all_of(other))


class Orders(OwnCase):
    WARES = ["oil", "gas", "oil", "wax", "tar"]

    def test_nothing_handed_in_is_changed(self):
        pipe, wares = a_pipe(), list(self.WARES)
        for ask in [least_order, tree_of, near_order]:
            ask(pipe, wares)
        waste_between(pipe, "oil", "gas")
        self.assertEqual((pipe_fields(pipe), wares), (pipe_fields(a_pipe()), self.WARES))

    def test_what_is_told_may_be_changed(self):
        pipe = a_pipe()
        for ask in [least_order, tree_of, near_order]:
            for wares in [self.WARES, self.WARES[:1]]:
                first, second = ask(pipe, wares), ask(pipe, wares)
                kept = copy.deepcopy(first)
                self.assert_all_own(lists_in((first, second)))
                spoil(first)
                self.assertEqual((second, ask(pipe, wares)), (kept, kept))

    def test_no_wares_twice(self):
        first, second = least_order(a_pipe(), []), least_order(a_pipe(), [])
        first[0].append("spoiled")
        self.assertEqual(second, ([], (0, 1)))

    def test_a_pipe_changed_later_changes_no_answer(self):
        pipe, wares = a_pipe(), list(self.WARES)
        answers = [ask(pipe, wares) for ask in [least_order, tree_of, near_order]]
        kept = copy.deepcopy(answers)
        spoil_pipe(pipe)
        wares.clear()
        self.assertEqual(answers, kept)


if __name__ == "__main__":
    unittest.main()
