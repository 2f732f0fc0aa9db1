import inspect
import unittest

from batchpipe.tanks import Tank, level_of, may_blend, put_in, taken_out

BOUNDS = [("oil", "gas", (1, 4)), ("gas", "oil", (1, 2)), ("oil", "wax", (0, 5)), ("oil", "tar", (2, 10))]


def fields_of(tank):
    return (tank.ware, tank.low, tank.high, tank.start, tank.settle, list(tank.holds), tank.rested)


def mixed_tank():
    return put_in(Tank("oil", 5, 100, 30, 2), [("gas", (10, 1)), ("tar", (1, 3))], (7, 2))


class Interface(unittest.TestCase):
    def test_the_arguments_have_their_names(self):
        for what, names in [
            (Tank, ["ware", "low", "high", "start", "settle"]), (level_of, ["tank"]),
            (may_blend, ["tank", "shares", "bounds"]), (put_in, ["tank", "shares", "hour"]),
            (taken_out, ["tank", "volume"]),
        ]:
            self.assertEqual(list(inspect.signature(what).parameters), names)
        tank = Tank(ware="oil", low=0, high=9, start=4, settle=1)
        self.assertEqual(level_of(tank=tank), (4, 1))
        self.assertIs(may_blend(tank=tank, shares=[], bounds=[]), True)
        self.assertEqual(put_in(tank=tank, shares=[], hour=(3, 2)).rested, (3, 2))
        self.assertEqual(taken_out(tank=tank, volume=1)[1], [("oil", (1, 1))])

    def test_kinds(self):
        tank = mixed_tank()
        self.assertIs(type(tank), Tank)
        self.assertIs(type(tank.holds), list)
        for pair in tank.holds:
            self.assertIs(type(pair), tuple)
            self.assertIs(type(pair[1]), tuple)
        self.assertIs(type(level_of(tank)), tuple)
        self.assertIs(may_blend(tank, [], BOUNDS), True)
        self.assertIs(may_blend(tank, [], []), False)
        answer = taken_out(tank, 3)
        self.assertIs(type(answer), tuple)
        self.assertEqual(len(answer), 2)
        self.assertIs(type(answer[0]), Tank)
        self.assertIs(type(answer[1]), list)
        for pair in answer[1]:
            self.assertIs(type(pair), tuple)


class Making(unittest.TestCase):
    def test_fields(self):
        self.assertEqual(fields_of(Tank("oil", 5, 100, 30, 2)), ("oil", 5, 100, 30, 2, [("oil", (30, 1))], (0, 1)))

    def test_an_empty_one_holds_nothing(self):
        tank = Tank("oil", 0, 0, 0, 0)
        self.assertEqual(tank.holds, [])
        self.assertEqual(level_of(tank), (0, 1))

    def test_the_greatest(self):
        tank = Tank("oil", 10 ** 9, 10 ** 9, 10 ** 9, 1000)
        self.assertEqual(tank.holds, [("oil", (10 ** 9, 1))])
        self.assertEqual(level_of(tank), (10 ** 9, 1))

    def test_the_start_may_be_below_low(self):
        self.assertEqual(level_of(Tank("oil", 50, 100, 3, 0)), (3, 1))


class Levels(unittest.TestCase):
    def test_a_sum_in_lowest_terms(self):
        tank = put_in(Tank("oil", 0, 9, 0, 0), [("gas", (1, 6)), ("oil", (1, 3)), ("wax", (1, 2))], (0, 1))
        self.assertEqual(level_of(tank), (1, 1))
        self.assertEqual(level_of(mixed_tank()), (121, 3))


class PuttingIn(unittest.TestCase):
    def test_a_ware_that_is_there_and_one_that_is_not(self):
        tank = put_in(Tank("oil", 0, 100, 30, 2), [("oil", (1, 2)), ("wax", (2, 3))], (9, 4))
        self.assertEqual(fields_of(tank), ("oil", 0, 100, 30, 2, [("oil", (61, 2)), ("wax", (2, 3))], (9, 4)))

    def test_by_rising_ware(self):
        tank = put_in(Tank("m", 0, 100, 1, 0), [("a", (1, 1)), ("z", (1, 1))], (1, 1))
        tank = put_in(tank, [("b", (1, 1)), ("y", (1, 1))], (2, 1))
        self.assertEqual([ware for ware, amount in tank.holds], ["a", "b", "m", "y", "z"])

    def test_lowest_terms(self):
        tank = put_in(put_in(Tank("a", 0, 9, 0, 0), [("a", (1, 6))], (1, 1)), [("a", (1, 3))], (1, 1))
        self.assertEqual(tank.holds, [("a", (1, 2))])

    def test_none_at_all_sets_the_hour(self):
        tank = put_in(Tank("oil", 0, 100, 30, 2), [], (5, 1))
        self.assertEqual(fields_of(tank), ("oil", 0, 100, 30, 2, [("oil", (30, 1))], (5, 1)))

    def test_the_last_hour_counts(self):
        tank = put_in(put_in(Tank("oil", 0, 9, 1, 2), [("oil", (1, 1))], (5, 1)), [("oil", (1, 1))], (4, 1))
        self.assertEqual(tank.rested, (4, 1))
        self.assertEqual(put_in(tank, [], (0, 1)).rested, (0, 1))

    def test_above_high(self):
        tank = put_in(Tank("oil", 0, 10, 10, 2), [("oil", (1, 2))], (5, 1))
        self.assertEqual(tank.holds, [("oil", (21, 2))])

    def test_a_ware_that_may_not_be_blended(self):
        self.assertEqual(put_in(Tank("oil", 0, 10, 0, 2), [("gas", (1, 2))], (5, 1)).holds, [("gas", (1, 2))])

    def test_the_tank_handed_in_stays(self):
        tank = mixed_tank()
        before = fields_of(tank)
        put_in(tank, [("oil", (3, 1)), ("wax", (1, 1))], (99, 1))
        self.assertEqual(fields_of(tank), before)

    def test_forty_wares(self):
        wares = ["w" + chr(97 + number // 26) + chr(97 + number % 26) for number in range(40)]
        tank = put_in(Tank("m", 0, 10 ** 9, 1, 0), [(ware, (1, 7)) for ware in wares], (1, 1))
        self.assertEqual(tank.holds, [("m", (1, 1))] + [(ware, (1, 7)) for ware in wares])
        self.assertEqual(level_of(tank), (47, 7))


class TakingOut(unittest.TestCase):
    def test_a_pure_one(self):
        later, shares = taken_out(Tank("oil", 5, 100, 30, 2), 12)
        self.assertEqual(shares, [("oil", (12, 1))])
        self.assertEqual(fields_of(later), ("oil", 5, 100, 30, 2, [("oil", (18, 1))], (0, 1)))

    def test_of_each_ware_the_same_part(self):
        tank = put_in(Tank("oil", 0, 100, 6, 2), [("gas", (3, 2)), ("tar", (5, 2))], (7, 2))
        later, shares = taken_out(tank, 4)
        self.assertEqual(shares, [("gas", (3, 5)), ("oil", (12, 5)), ("tar", (1, 1))])
        self.assertEqual(later.holds, [("gas", (9, 10)), ("oil", (18, 5)), ("tar", (3, 2))])

    def test_a_level_that_is_no_whole_number(self):
        later, shares = taken_out(mixed_tank(), 11)
        self.assertEqual(shares, [("gas", (30, 11)), ("oil", (90, 11)), ("tar", (1, 11))])
        self.assertEqual(later.holds, [("gas", (80, 11)), ("oil", (240, 11)), ("tar", (8, 33))])

    def test_rested_stays(self):
        self.assertEqual(taken_out(mixed_tank(), 11)[0].rested, (7, 2))

    def test_all_of_it(self):
        later, shares = taken_out(Tank("oil", 5, 100, 30, 2), 30)
        self.assertEqual((later.holds, shares), ([], [("oil", (30, 1))]))
        self.assertEqual(level_of(later), (0, 1))
        tank = put_in(Tank("oil", 0, 9, 0, 0), [("gas", (3, 2)), ("oil", (5, 2))], (1, 1))
        later, shares = taken_out(tank, 4)
        self.assertEqual((later.holds, shares), ([], [("gas", (3, 2)), ("oil", (5, 2))]))

    def test_below_low(self):
        self.assertEqual(level_of(taken_out(Tank("oil", 5, 100, 30, 2), 26)[0]), (4, 1))

    def test_the_greatest(self):
        later, shares = taken_out(Tank("oil", 0, 10 ** 9, 10 ** 9, 0), 10 ** 9 - 1)
        self.assertEqual((later.holds, shares), ([("oil", (1, 1))], [("oil", (10 ** 9 - 1, 1))]))

    def test_the_tank_handed_in_stays(self):
        tank = mixed_tank()
        before = fields_of(tank)
        taken_out(tank, 40)
        self.assertEqual(fields_of(tank), before)


class Blending(unittest.TestCase):
    def assert_blends(self, tank, shares, wanted, bounds=BOUNDS):
        before = (fields_of(tank), list(shares), list(bounds))
        self.assertIs(may_blend(tank, shares, bounds), wanted)
        self.assertEqual((fields_of(tank), list(shares), list(bounds)), before)

    def test_its_own_ware(self):
        self.assert_blends(Tank("oil", 0, 9, 4, 0), [("oil", (3, 1))], True)
        self.assert_blends(Tank("oil", 0, 9, 0, 0), [("oil", (3, 1))], True, [])

    def test_above_high(self):
        self.assert_blends(Tank("oil", 0, 9, 9, 0), [("oil", (3, 1))], True)

    def test_just_the_bounds_part_and_beyond(self):
        self.assert_blends(Tank("oil", 0, 99, 9, 0), [("gas", (3, 1))], True)
        self.assert_blends(Tank("oil", 0, 99, 9, 0), [("gas", (301, 100))], False)
        self.assert_blends(Tank("oil", 0, 99, 8, 0), [("gas", (3, 1)), ("oil", (1, 1))], True)
        self.assert_blends(Tank("oil", 0, 99, 8, 0), [("gas", (3, 1)), ("oil", (99, 100))], False)

    def test_a_bound_that_is_not_in_lowest_terms(self):
        self.assert_blends(Tank("oil", 0, 99, 8, 0), [("tar", (2, 1))], True)
        self.assert_blends(Tank("oil", 0, 99, 8, 0), [("tar", (201, 100))], False)

    def test_a_ware_without_a_bound(self):
        self.assert_blends(Tank("oil", 0, 99, 90, 0), [("milk", (1, 1000))], False)
        self.assert_blends(Tank("oil", 0, 99, 90, 0), [("gas", (1, 1))], False, [])

    def test_a_bound_of_nothing(self):
        self.assert_blends(Tank("oil", 0, 99, 90, 0), [("wax", (1, 1000))], False)

    def test_a_bound_of_all(self):
        bounds = [("oil", "gas", (3, 3))]
        self.assert_blends(Tank("oil", 0, 99, 0, 0), [("gas", (5, 1))], True, bounds)
        self.assert_blends(Tank("oil", 0, 99, 1, 0), [("gas", (5, 1))], True, bounds)

    def test_the_order_of_a_bounds_wares(self):
        # A tank of gas may hold a half of oil, a tank of oil a quarter of gas.
        self.assert_blends(Tank("gas", 0, 99, 4, 0), [("oil", (4, 1))], True)
        self.assert_blends(Tank("oil", 0, 99, 4, 0), [("gas", (4, 1))], False)
        self.assert_blends(Tank("gas", 0, 99, 4, 0), [("oil", (1, 1))], False, BOUNDS[:1])

    def test_what_the_tank_holds_counts(self):
        tank = put_in(Tank("oil", 0, 99, 9, 0), [("gas", (2, 1))], (1, 1))
        self.assert_blends(tank, [("gas", (1, 1))], True)
        self.assert_blends(tank, [("gas", (11, 10))], False)
        self.assert_blends(tank, [("gas", (2, 1)), ("oil", (3, 1))], True)

    def test_each_of_several_wares_counts(self):
        self.assert_blends(Tank("oil", 0, 99, 11, 0), [("gas", (5, 1)), ("tar", (4, 1))], True)
        self.assert_blends(Tank("oil", 0, 99, 11, 0), [("gas", (5, 1)), ("tar", (401, 100))], False)
        self.assert_blends(Tank("oil", 0, 99, 11, 0), [("gas", (51, 10)), ("tar", (3, 1))], False)
        self.assert_blends(Tank("oil", 0, 99, 11, 0), [("gas", (1, 1)), ("milk", (1, 9))], False)

    def test_an_empty_tank(self):
        empty = Tank("oil", 0, 99, 0, 0)
        self.assert_blends(empty, [("gas", (1, 1)), ("oil", (3, 1))], True)
        self.assert_blends(empty, [("gas", (1, 1)), ("oil", (29, 10))], False)
        self.assert_blends(empty, [("gas", (1, 1))], False)

    def test_a_tank_that_was_emptied(self):
        emptied = taken_out(put_in(Tank("oil", 0, 99, 3, 0), [("gas", (1, 1))], (1, 1)), 4)[0]
        self.assert_blends(emptied, [("gas", (1, 1)), ("oil", (3, 1))], True)
        self.assert_blends(emptied, [("gas", (101, 100)), ("oil", (3, 1))], False)

    def test_no_shares(self):
        self.assert_blends(Tank("oil", 0, 99, 0, 0), [], True)
        self.assert_blends(Tank("oil", 0, 99, 5, 0), [], True)
        self.assert_blends(put_in(Tank("oil", 0, 99, 3, 0), [("gas", (1, 1))], (1, 1)), [], True)
        self.assert_blends(put_in(Tank("oil", 0, 99, 3, 0), [("gas", (2, 1))], (1, 1)), [], False)

    def test_a_tank_that_holds_too_much_may_be_mended(self):
        tank = put_in(Tank("oil", 0, 99, 3, 0), [("gas", (2, 1))], (1, 1))
        self.assert_blends(tank, [("oil", (3, 1))], True)
        self.assert_blends(tank, [("oil", (2, 1))], False)

    def test_forty_bounds_and_shares(self):
        wares = ["w" + chr(97 + number // 26) + chr(97 + number % 26) for number in range(40)]
        bounds = [("m", ware, (1, 1000)) for ware in wares]
        shares = [(ware, (1, 1)) for ware in wares]
        self.assert_blends(Tank("m", 0, 10 ** 9, 960, 0), shares, True, bounds)
        self.assert_blends(Tank("m", 0, 10 ** 9, 959, 0), shares, False, bounds)
        self.assert_blends(Tank("m", 0, 10 ** 9, 10 ** 9, 0), shares, False, bounds[:39])


if __name__ == "__main__":
    unittest.main()
