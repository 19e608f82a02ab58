"""Points 7, 8, 9 and 10: one customer."""

import unittest

from tests.samples import (
    FIVE, NEVER_CUSTOMER, OWED, customers_up_to, plain_behind, plain_levels, plain_ways, refusal, tills_up_to, worth,
)
from tillpress.coins import levels_of
from tillpress.customers import adds, all_ways, behind, can_serve, change_of, given_out, is_customer
from tillpress.errors import NoChange, NoCoins, NoCustomer, TooMany

MILLION = 10 ** 6
# Coins, the most of each that is paid, and the most that lie in the till.
SMALL = (([1, 2], 2, 3), ([1, 3], 2, 3), ([1, 2, 4], 1, 2), ([1, 2, 6], 1, 2), ([1, 3, 6], 1, 2))


class TestIsCustomer(unittest.TestCase):
    def test_the_bounds(self):
        for coins, thing, told in (
            ([1, 5], (0, [0, 0]), True), ([1, 5], (-1, [0, 0]), False), ([1, 5], (7, [2, 1]), True),
            ([1, 5], (8, [2, 1]), False), ([1, 5], (6, [2, 1]), True), ([1, 5], (1, [0, 0]), False),
            ([1, 5], (0, [MILLION, MILLION]), True), ([1, 5], (0, [MILLION + 1, 0]), False),
            ([1, 5], (0, [0, MILLION + 1]), False), ([1, 5], (0, [-1, 1]), False), ([1, 5], (0, [1, -1]), False),
            ([1, 5], (6 * MILLION, [MILLION, MILLION]), True),
            ([1, 5], (6 * MILLION + 1, [MILLION, MILLION]), False),
            ([1, 1000], (10 ** 9, [0, MILLION]), True), ([1, 1000], (10 ** 9 + 1, [1, MILLION]), False),
            ([1, 100000], (10 ** 9 + 1, [0, MILLION]), False), ([1, 100000], (10 ** 9, [0, 10000]), True),
            ([1, 100000], (10 ** 9, [MILLION, 9990]), True), ([1, 100000], (10 ** 9, [MILLION, 9989]), False),
            (FIVE, (166, [1, 1, 1, 1, 1]), True), (FIVE, (167, [1, 1, 1, 1, 1]), False),
        ):
            self.assertIs(is_customer(coins, thing), told, thing)

    def test_the_shape(self):
        for thing in (
            [3, [0, 1]], (3, (0, 1)), (3,), (3, [0, 1], 0), (3, [5]), (3, [5, 0, 0]), ([0, 1], 3), (3, 5),
            (True, [0, 1]), (False, [0, 1]), (3, [True, 1]), (3, [0, True]), ("3", [0, 1]), (None, [0, 1]),
            (3, None), (3, "01"), (3, [0, "1"]), (3, [0, [1]]), (3, [[0, 1]]), (3, {0: 0, 1: 1}), None, 3, "", (),
        ):
            self.assertIs(is_customer([1, 5], thing), False, thing)
            self.assertIs(refusal(change_of, [1, 5], thing).__class__, NoCustomer, thing)

    def test_of_anything(self):
        for thing in NEVER_CUSTOMER:
            self.assertIs(is_customer(FIVE, thing), False, thing)

    def test_no_coins_ahead_of_no_customer(self):
        for coins in (None, [1], [1, 1], (1, 5), [1, 5, 12], True):
            for thing in ((3, [0, 1]), None, True, [3, [0, 1]]):
                for action in (is_customer, change_of, adds):
                    self.assertIs(refusal(action, coins, thing).__class__, NoCoins)


class TestChange(unittest.TestCase):
    def test_change(self):
        for coins, customer, change in (
            ([1, 5], (3, [0, 1]), 2), ([1, 5], (0, [0, 0]), 0), ([1, 5], (7, [2, 1]), 0), ([1, 5], (0, [2, 1]), 7),
            (FIVE, OWED, 70), ([1, 100000], (0, [MILLION, MILLION]), MILLION + 10 ** 11),
            ([1, 1000], (10 ** 9, [7, MILLION]), 7),
        ):
            self.assertEqual(change_of(coins, customer), change)


class TestAdds(unittest.TestCase):
    def test_two_coins(self):
        for customer, row in (
            ((0, [0, 0]), [0, 0]), ((7, [2, 1]), [2, 7]), ((10, [0, 2]), [0, 10]), ((3, [0, 1]), [-2, 3]),
            ((5, [0, 2]), [0, 5]), ((4, [4, 1]), [4, 4]), ((1, [0, 1]), [-4, 1]), ((6, [0, 2]), [-4, 6]),
            ((3, [4, 0]), [3, 3]), ((0, [0, 3]), [0, 0]), ((1, [7, 0]), [6, 1]),
        ):
            self.assertEqual(adds([1, 5], customer), row, customer)

    def test_five_coins(self):
        for customer, row in (
            (OWED, [2, 7, -13, 37, 37]), ((166, [1, 1, 1, 1, 1]), [1, 6, 16, 66, 166]),
            ((0, [0, 0, 0, 0, 0]), [0, 0, 0, 0, 0]), ((1, [0, 0, 0, 0, 1]), [-4, -9, -49, -99, 1]),
            ((0, [0, 0, 0, 0, 3]), [0, 0, 0, 0, 0]), ((50, [0, 0, 0, 0, 1]), [0, 0, 0, -50, 50]),
            ((34, [0, 0, 0, 0, 1]), [-1, -6, -16, -66, 34]), ((34, [4, 0, 1, 1, 1]), [4, 4, -16, 34, 34]),
        ):
            self.assertEqual(adds(FIVE, customer), row, customer)

    def test_the_last_is_the_price(self):
        for coins, paid, held in SMALL:
            for customer in customers_up_to(coins, paid):
                self.assertEqual(adds(coins, customer)[-1], customer[0])
                self.assertEqual(len(adds(coins, customer)), len(coins))

    def test_without_change_the_coins_paid_are_added(self):
        for coins, paid, held in SMALL:
            for customer in customers_up_to(coins, paid):
                if customer[0] == worth(coins, customer[1]):
                    self.assertEqual(adds(coins, customer), plain_levels(coins, customer[1]))


class TestServing(unittest.TestCase):
    def test_told_ones(self):
        for coins, till, customer, given, after in (
            ([1, 5], [2, 0], (3, [0, 1]), [2, 0], [0, 1]), ([1, 5], [0, 0], (0, [0, 0]), [0, 0], [0, 0]),
            ([1, 5], [0, 0], (7, [2, 1]), [0, 0], [2, 1]), ([1, 5], [9, 1], (3, [0, 2]), [2, 1], [7, 2]),
            ([1, 5, 10], [8, 1, 2], (3, [0, 0, 1]), [2, 1, 0], [6, 0, 3]),
            ([1, 5, 10], [7, 0, 2], (3, [0, 0, 1]), [7, 0, 0], [0, 0, 3]),
            (FIVE, [0, 0, 2, 0, 0], OWED, [0, 0, 2, 1, 0], [2, 1, 0, 1, 0]),
        ):
            self.assertIs(can_serve(coins, till, customer), True)
            self.assertEqual(given_out(coins, till, customer), given)
            self.assertEqual(behind(coins, till, customer), after)

    def test_coins_just_paid_are_given_back(self):
        for coins, till, customer, given, after in (
            ([1, 5], [0, 0], (5, [2, 1]), [2, 0], [0, 1]), ([1, 5], [0, 0], (2, [2, 1]), [0, 1], [2, 0]),
            ([1, 5], [0, 0], (0, [3, 4]), [3, 4], [0, 0]), ([1, 5], [0, 0], (0, [7, 0]), [7, 0], [0, 0]),
            ([1, 5], [0, 1], (2, [7, 0]), [0, 1], [7, 0]), ([1, 5], [2, 0], (4, [1, 2]), [2, 1], [1, 1]),
            ([1, 5], [1, 0], (2, [1, 1]), [-1, -1], []), ([1, 5], [0, 9], (3, [1, 1]), [-1, -1], []),
        ):
            self.assertIs(can_serve(coins, till, customer), given[0] >= 0, customer)
            if given[0] >= 0:
                self.assertEqual(given_out(coins, till, customer), given)
                self.assertEqual(behind(coins, till, customer), after)

    def test_no_change_tells_the_least_level(self):
        for coins, till, customer, level in (
            ([1, 5], [1, 9], (3, [0, 1]), 0), ([1, 5], [0, 0], (4, [0, 1]), 0),
            ([1, 5, 10], [2, 0, 9], (3, [0, 0, 1]), 1), ([1, 5, 10], [1, 0, 9], (3, [0, 0, 1]), 0),
            ([1, 5, 10], [0, 3, 9], (3, [0, 0, 1]), 0), ([1, 5, 10], [6, 0, 9], (3, [0, 0, 1]), 1),
            (FIVE, [0] * 5, (50, [0, 0, 0, 0, 1]), 3), (FIVE, [4, 1, 4, 0, 7], (1, [0, 0, 0, 0, 1]), 3),
            (FIVE, [0, 0, 1, 0, 0], OWED, 2), (FIVE, [0, 0, 0, 5, 5], OWED, 2),
        ):
            self.assertIs(can_serve(coins, till, customer), False)
            for action in (given_out, behind, all_ways):
                refused = refusal(action, coins, till, customer)
                self.assertIs(refused.__class__, NoChange)
                self.assertEqual(refused.level, level)

    def test_the_greatest_first_come_out_even_where_any_way_does(self):
        for coins, paid, held in SMALL:
            for till in tills_up_to(coins, held):
                for customer in customers_up_to(coins, paid):
                    self.check_serving(coins, till, customer)

    def check_serving(self, coins, till, customer):
        told = (coins, till, customer)
        ways = plain_ways(coins, till, customer)
        pressed = [level + e for level, e in zip(plain_levels(coins, till), adds(coins, customer))]
        self.assertEqual(min(pressed) >= 0, bool(ways), told)
        self.assertIs(can_serve(coins, till, customer), bool(ways), told)
        if not ways:
            least = [k for k in range(len(coins)) if pressed[k] < 0][0]
            for action in (given_out, behind, all_ways):
                refused = refusal(action, coins, till, customer)
                self.assertIs(refused.__class__, NoChange, told)
                self.assertEqual(refused.level, least, told)
            return
        self.assertEqual(all_ways(coins, till, customer), ways, told)
        # Greatest first is the greatest of all ways, looked at from the last coin to the first.
        given = max(ways, key=lambda way: way[::-1])
        self.assertEqual(given_out(coins, till, customer), given, told)
        after = behind(coins, till, customer)
        self.assertEqual(after, plain_behind(till, customer, given), told)
        levels = levels_of(coins, after)
        self.assertEqual(levels, [min(pressed[k:]) for k in range(len(coins))], told)
        for way in ways:
            others = levels_of(coins, plain_behind(till, customer, way))
            self.assertTrue(all(a <= b for a, b in zip(others, levels)), told)

    def test_great_numbers(self):
        coins = [1, 5, 100000]
        till = [10 ** 29, 10 ** 29, 10 ** 29]
        customer = (1, [0, 0, MILLION])
        self.assertEqual(given_out(coins, till, customer), [4, 19999, MILLION - 1])
        self.assertEqual(behind(coins, till, customer), [10 ** 29 - 4, 10 ** 29 - 19999, 10 ** 29 + 1])
        self.assertIs(can_serve(coins, [4, 19998, 10 ** 29], customer), False)
        self.assertEqual(refusal(behind, coins, [4, 19998, 10 ** 29], customer).level, 1)


class TestAllWays(unittest.TestCase):
    def test_told_ones(self):
        for coins, till, customer, ways in (
            ([1, 5], [0, 0], (0, [0, 0]), [[0, 0]]), ([1, 5], [3, 0], (7, [2, 1]), [[0, 0]]),
            ([1, 5], [12, 1], (0, [0, 1]), [[0, 1], [5, 0]]), ([1, 5], [12, 1], (0, [0, 2]), [[0, 2], [5, 1], [10, 0]]),
            ([1, 5], [0, 1], (0, [5, 0]), [[0, 1], [5, 0]]),
            ([1, 5, 10], [8, 1, 2], (3, [0, 0, 1]), [[2, 1, 0], [7, 0, 0]]),
            ([1, 2, 4], [2, 2, 0], (0, [0, 0, 1]), [[0, 0, 1], [0, 2, 0], [2, 1, 0]]),
        ):
            self.assertEqual(all_ways(coins, till, customer), ways)

    def test_they_are_told_as_python_sorts_lists(self):
        ways = all_ways(FIVE, [20, 8, 3, 1, 0], (60, [0, 0, 0, 0, 1]))
        self.assertEqual(ways, plain_ways(FIVE, [20, 8, 3, 1, 0], (60, [0, 0, 0, 0, 1])))
        self.assertEqual(ways, sorted(ways))
        self.assertGreater(len(ways), 10)

    def test_two_hundred_and_one_more(self):
        for coins, till, customer in (
            ([1, 2], [398, 199], (2, [0, 200])), ([1, 2], [398, 1], (0, [0, 200])),
            ([1, 2], [400, 1], (0, [0, 200])), ([1, 5], [2000, 0], (1000, [0, 399])),
            ([1, 5], [2000, 0], (1000, [0, 400])), ([1, 5], [995, 0], (0, [0, 199])),
            ([1, 2], [399, 0], (0, [0, 199])), ([1, 2], [401, 0], (0, [1, 200])), ([1, 5], [1008, 0], (1, [0, 201])),
        ):
            many = len(plain_ways(coins, till, customer))
            if many <= 200:
                self.assertEqual(len(all_ways(coins, till, customer)), many)
            else:
                self.assertIs(refusal(all_ways, coins, till, customer).__class__, TooMany)

    def test_just_two_hundred(self):
        ways = all_ways([1, 2], [398, 0], (0, [0, 199]))
        self.assertEqual(ways, [[2 * k, 199 - k] for k in range(200)])
        self.assertIs(refusal(all_ways, [1, 2], [400, 0], (0, [0, 200])).__class__, TooMany)
        self.assertEqual(len(all_ways([1, 2], [399, 0], (0, [0, 200]))), 200)
        self.assertEqual(len(all_ways([1, 5], [1000, 0], (0, [0, 199]))), 200)
        self.assertIs(refusal(all_ways, [1, 5], [1000, 0], (0, [0, 200])).__class__, TooMany)

    def test_two_hundred_by_three_coins(self):
        found = {}
        for change in range(44, 68, 4):
            till = [change, change // 2, 0]
            many = len(plain_ways([1, 2, 4], till, (0, [0, 0, change // 4])))
            refused = refusal(all_ways, [1, 2, 4], till, (0, [0, 0, change // 4]))
            found[many > 200] = True
            if many > 200:
                self.assertIs(refused.__class__, TooMany, many)
            else:
                self.assertEqual(len(all_ways([1, 2, 4], till, (0, [0, 0, change // 4]))), many)
        self.assertEqual(len(found), 2)

    def test_great_numbers(self):
        self.assertEqual(all_ways([1, 100000], [0, 0], (0, [0, MILLION])), [[0, MILLION]])
        self.assertEqual(all_ways([1, 100000], [99999, 10 ** 29], (0, [0, MILLION])), [[0, MILLION]])
        self.assertEqual(len(all_ways([1, 100000], [199 * 100000, 0], (0, [0, MILLION]))), 200)
        self.assertIs(refusal(all_ways, [1, 100000], [200 * 100000, 0], (0, [0, MILLION])).__class__, TooMany)
        self.assertIs(refusal(all_ways, FIVE, [10 ** 30 - 1] * 5, (0, [MILLION] * 5)).__class__, TooMany)
        self.assertEqual(
            all_ways([1, 2, 100000], [10 ** 29, 0, 0], (99999, [0, 0, 1])), [[1, 0, 0]])

    def test_none_at_all(self):
        # So many coins, but none that make up the rest: NoChange, and not TooMany.
        refused = refusal(all_ways, [1, 5, 10], [1, 1000, 1000], (3, [0, 1000, 1000]))
        self.assertIs(refused.__class__, NoChange)
        self.assertEqual(refused.level, 0)
        refused = refusal(all_ways, [1, 5, 10], [4, 0, 1000], (5, [0, 0, 1000]))
        self.assertIs(refused.__class__, NoChange)
        self.assertEqual(refused.level, 1)


if __name__ == "__main__":
    unittest.main()
