"""Points 13 and 14: needs, and the tills that meet them."""

import unittest
from itertools import product

from tests.samples import (
    FIVE, FIVE_DAY, FIVE_NEEDS, NEVER_DAY, NEVER_LEVEL, NEVER_NEEDS, NEVER_TILL, OWED, customers_up_to, is_falling_way,
    long_days, plain_levels, plain_needs, plain_served, poor_till, refusal, small_days, sum_along, tills_up_to, worth,
)
from tillpress.customers import adds
from tillpress.days import served
from tillpress.errors import NoCoins, NoDay, NoLevels, NoNeeds, NoTill
from tillpress.needs import least_float, meets, needs, way_for

OWED_TWO = (3, [0, 1])
SWAP = (0, [5, 0])


class TestNeeds(unittest.TestCase):
    def test_the_empty_day(self):
        for coins in ([1, 5], [1, 2, 4], FIVE):
            self.assertEqual(needs(coins, []), [0] * len(coins))
            for level in range(len(coins)):
                self.assertIsNone(way_for(coins, [], level))

    def test_one_customer(self):
        for coins, customer, told in (
            ([1, 5], OWED_TWO, [2, 2]), ([1, 5], (5, [0, 1]), [0, 0]), ([1, 5], (1, [0, 1]), [4, 4]),
            ([1, 5], SWAP, [0, 0]), ([1, 5, 10], (3, [0, 0, 1]), [2, 7, 7]), ([1, 5, 10], (5, [0, 0, 1]), [0, 5, 5]),
            (FIVE, OWED, [0, 0, 13, 13, 13]), (FIVE, (1, [0, 0, 0, 0, 1]), [4, 9, 49, 99, 99]),
            (FIVE, (100, [0, 0, 0, 0, 1]), [0] * 5), (FIVE, (50, [0, 0, 0, 0, 1]), [0, 0, 0, 50, 50]),
        ):
            self.assertEqual(needs(coins, [customer]), told, customer)

    def test_several_customers(self):
        for coins, day, told in (
            ([1, 5], [OWED_TWO, OWED_TWO], [4, 4]), ([1, 5], [(2, [2, 0]), OWED_TWO], [0, 0]),
            ([1, 5], [OWED_TWO, (2, [2, 0])], [2, 2]), ([1, 5], [(1, [1, 0]), OWED_TWO], [1, 1]),
            # Where the first one changes, the level above him presses on the level below.
            ([1, 5], [SWAP, OWED_TWO, OWED_TWO], [0, 4]), ([1, 5], [SWAP, OWED_TWO, OWED_TWO, OWED_TWO], [1, 6]),
            (FIVE, FIVE_DAY, FIVE_NEEDS),
        ):
            self.assertEqual(needs(coins, day), told, day)

    def test_forty_customers(self):
        self.assertEqual(needs([1, 5], [OWED_TWO] * 40), [80, 80])
        self.assertEqual(needs([1, 5], [(2, [2, 0])] * 20 + [OWED_TWO] * 20), [0, 0])
        self.assertEqual(needs([1, 5], [OWED_TWO] * 20 + [(2, [2, 0])] * 20), [40, 40])
        self.assertEqual(needs([1, 5], [SWAP] * 10 + [OWED_TWO] * 30), [10, 60])
        self.assertEqual(needs(FIVE, [OWED] * 40), [0, 0, 520, 520, 520])

    def test_against_all_ways(self):
        for coins, till, day in small_days(150) + long_days(60):
            told = needs(coins, day)
            self.assertEqual(told, plain_needs(coins, day), (coins, day))
            self.assertEqual(told, sorted(told))
            self.assertGreaterEqual(told[0], 0)

    def test_a_till_is_served_the_whole_day_just_where_its_levels_meet_them(self):
        found = {}
        for coins, ignored, day in small_days(25):
            told = needs(coins, day)
            for till in tills_up_to(coins, 3):
                met = all(level >= need for level, need in zip(plain_levels(coins, till), told))
                self.assertIs(plain_served(coins, till, day) == len(day), met, (coins, till, day))
                found[met] = True
        self.assertEqual(len(found), 2)

    def test_just_met_and_one_less(self):
        for coins, ignored, day in small_days(60) + long_days(60):
            told = needs(coins, day)
            self.assertEqual(served(coins, least_float(coins, told), day), len(day), (coins, day))
            self.assertEqual(served(coins, [told[-1]] + [0] * (len(coins) - 1), day), len(day), (coins, day))
            for k, need in enumerate(told):
                if need > 0:
                    self.assertLess(served(coins, poor_till(coins, k, need - 1), day), len(day), (coins, day, k))

    def test_what_is_no_day(self):
        for day in NEVER_DAY:
            self.assertIs(refusal(needs, FIVE, day).__class__, NoDay, day)
        self.assertIs(refusal(needs, [1, 5], [OWED_TWO] * 41).__class__, NoDay)
        self.assertIs(refusal(needs, [5, 1], [OWED_TWO] * 41).__class__, NoCoins)


class TestWayFor(unittest.TestCase):
    def test_told_ones(self):
        for level, way in ((0, None), (1, None), (2, [2, 2]), (3, [2, 2]), (4, [2, 2])):
            told = way_for(FIVE, [OWED, OWED], level)
            self.assertEqual(told, way)
        self.assertIsNone(way_for([1, 5], [(2, [2, 0]), OWED_TWO], 1))
        self.assertEqual(way_for([1, 5], [SWAP, OWED_TWO, OWED_TWO], 1), [1, 0, 0])
        self.assertIsNone(way_for([1, 5], [SWAP, OWED_TWO, OWED_TWO], 0))

    def test_its_sum_turned_about_is_the_need(self):
        found = {}
        for coins, till, day in small_days(150) + long_days(60):
            for level, need in enumerate(plain_needs(coins, day)):
                way = way_for(coins, day, level)
                found[way is None] = True
                if need == 0:
                    self.assertIsNone(way, (coins, day, level))
                else:
                    self.assertTrue(is_falling_way(coins, way, len(day)), (coins, day, way))
                    self.assertLessEqual(way[0], level)
                    self.assertEqual(-sum_along(coins, day, way), need, (coins, day, way))
        self.assertEqual(len(found), 2)

    def test_of_forty(self):
        day = [SWAP] * 10 + [OWED_TWO] * 30
        for level, need in ((0, 10), (1, 60)):
            way = way_for([1, 5], day, level)
            self.assertTrue(is_falling_way([1, 5], way, 40))
            self.assertLessEqual(way[0], level)
            self.assertEqual(-sum_along([1, 5], day, way), need)

    def test_what_is_no_number_of_a_level(self):
        for level in NEVER_LEVEL:
            self.assertIs(refusal(way_for, FIVE, FIVE_DAY, level).__class__, NoLevels, level)
            self.assertIs(refusal(way_for, FIVE, [], level).__class__, NoLevels, level)
        for coins in ([1, 5], [1, 2, 4], FIVE):
            for level in (-1, len(coins), len(coins) + 1, 10 ** 30, True, False, None, "0", "", [0], (0,), b"0"):
                self.assertIs(refusal(way_for, coins, [], level).__class__, NoLevels, level)
            self.assertIsNone(way_for(coins, [], len(coins) - 1))

    def test_the_order_of_refusals(self):
        self.assertIs(refusal(way_for, [1], None, None).__class__, NoCoins)
        self.assertIs(refusal(way_for, None, [OWED_TWO], 2).__class__, NoCoins)
        self.assertIs(refusal(way_for, [1, 5], None, None).__class__, NoDay)
        self.assertIs(refusal(way_for, [1, 5], [OWED], 2).__class__, NoDay)
        self.assertIs(refusal(way_for, [1, 5], [OWED_TWO], 2).__class__, NoLevels)


class TestMeets(unittest.TestCase):
    def test_just_at_the_bound_and_one_below(self):
        for coins, till, needed, told in (
            ([1, 5], [0, 0], [0, 0], True), ([1, 5], [3, 0], [3, 3], True), ([1, 5], [3, 0], [3, 4], False),
            ([1, 5], [2, 9], [3, 3], False), ([1, 5], [3, 1], [3, 8], True), ([1, 5], [3, 1], [3, 9], False),
            ([1, 5], [3, 1], [4, 8], False), ([1, 5, 10], [2, 1, 9], [2, 7, 97], True),
            ([1, 5, 10], [2, 1, 9], [2, 8, 97], False), ([1, 5, 10], [2, 1, 9], [2, 7, 98], False),
            ([1, 5, 10], [2, 1, 9], [3, 7, 97], False), ([1, 100000], [0, 10 ** 29], [0, 10 ** 34], True),
            ([1, 100000], [0, 10 ** 29], [0, 10 ** 34 + 1], False),
        ):
            self.assertIs(meets(coins, till, needed), told, (coins, till, needed))

    def test_each_level_alone(self):
        till = [3, 1, 4, 1, 2]
        levels = plain_levels(FIVE, till)
        self.assertIs(meets(FIVE, till, levels), True)
        for k in range(5):
            needed = [level if j < k else max(level, levels[k] + 1) for j, level in enumerate(levels)]
            self.assertIs(meets(FIVE, till, needed), False, k)

    def test_what_is_no_needs(self):
        for needed in (
            [3, 2], [1, 0], [-1, 4], [-2, -1], [0], [], [0, 0, 0], (0, 0), [True, 5], [0, True], [False, False],
            [0, None], [None, 0], ["0", 0], [[0], [5]], [(0, 5)], None, True, 0, 5, "05", {0: 0, 1: 5}, {0, 5},
        ):
            self.assertIs(refusal(meets, [1, 5], [9, 9], needed).__class__, NoNeeds, needed)
            self.assertIs(refusal(least_float, [1, 5], needed).__class__, NoNeeds, needed)
        for needed in ([0, 5, 4], [5, 4, 5], [5, 0, 0], [-1, 0, 0], [0, 0], [0, 0, 0, 0]):
            self.assertIs(refusal(least_float, [1, 5, 10], needed).__class__, NoNeeds, needed)

    def test_of_anything(self):
        for needed in NEVER_NEEDS:
            self.assertIs(refusal(meets, FIVE, [9] * 5, needed).__class__, NoNeeds, needed)
            self.assertIs(refusal(least_float, FIVE, needed).__class__, NoNeeds, needed)
        for till in NEVER_TILL:
            self.assertIs(refusal(meets, FIVE, till, [0] * 5).__class__, NoTill, till)

    def test_the_order_of_refusals(self):
        self.assertIs(refusal(meets, [5, 1], [0], [1, 0]).__class__, NoCoins)
        self.assertIs(refusal(meets, [1, 5], [0], [1, 0]).__class__, NoTill)
        self.assertIs(refusal(meets, [1, 5], [0, 0], [1, 0]).__class__, NoNeeds)
        self.assertIs(refusal(least_float, [5, 1], [1, 0]).__class__, NoCoins)

    def test_needs_that_a_day_tells_are_needs(self):
        for coins, till, day in small_days(20):
            met = plain_served(coins, till, day) == len(day)
            self.assertIs(meets(coins, till, needs(coins, day)), met)


class TestLeastFloat(unittest.TestCase):
    def test_told_ones(self):
        for coins, needed, till in (
            ([1, 5], [0, 0], [0, 0]), ([1, 5], [2, 2], [2, 0]), ([1, 5], [2, 6], [6, 0]), ([1, 5], [2, 7], [2, 1]),
            ([1, 5], [0, 12], [2, 2]), ([1, 5], [3, 12], [7, 1]), ([1, 5, 10], [2, 7, 7], [2, 1, 0]),
            ([1, 5, 10], [0, 0, 19], [4, 1, 1]), ([1, 5, 10], [0, 10, 19], [4, 3, 0]),
            (FIVE, FIVE_NEEDS, [1, 1, 2, 0, 0]), (FIVE, [0, 0, 0, 0, 1000], [0, 0, 0, 0, 10]),
            (FIVE, [1000] * 5, [1000, 0, 0, 0, 0]), ([1, 100000], [1, 10 ** 34], [100000, 10 ** 29 - 1]),
        ):
            self.assertEqual(least_float(coins, needed), till, needed)

    def test_against_all_tills_of_that_worth(self):
        for coins, most in (([1, 2], 9), ([1, 3], 9), ([1, 2, 4], 6), ([1, 2, 6], 8), ([1, 3, 6], 8)):
            for needed in product(range(most), repeat=len(coins)):
                if list(needed) == sorted(needed):
                    self.check_least(coins, list(needed))

    def check_least(self, coins, needed):
        told = least_float(coins, needed)
        tried = product(*[range(needed[-1] // coin + 1) for coin in coins])
        tills = [list(till) for till in tried if worth(coins, till) == needed[-1]]
        met = [till for till in tills if all(a >= b for a, b in zip(plain_levels(coins, till), needed))]
        fewest = min(sum(till) for till in met)
        self.assertEqual([till for till in met if sum(till) == fewest], [told], (coins, needed))

    def test_it_meets_the_needs_of_a_day(self):
        for coins, till, day in small_days(40) + long_days(60):
            needed = needs(coins, day)
            told = least_float(coins, needed)
            self.assertIs(meets(coins, told, needed), True)
            self.assertEqual(worth(coins, told), needed[-1])


class TestOneCustomer(unittest.TestCase):
    def test_what_he_alone_needs(self):
        for coins, paid in (([1, 2], 2), ([1, 3, 6], 1)):
            for customer in customers_up_to(coins, paid):
                row = adds(coins, customer)
                told = [max(0, max(-e for e in row[:k + 1])) for k in range(len(coins))]
                self.assertEqual(needs(coins, [customer]), told)


if __name__ == "__main__":
    unittest.main()
