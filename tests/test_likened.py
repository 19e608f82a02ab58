"""Points 17 and 18: tills likened, and two put in one."""

import unittest
from itertools import product
from random import Random

from tests.samples import (
    FIVE, FIVE_TILL, NEVER_TILL, OTHER_TILL, long_days, plain_levels, refusal, small_days, tills_up_to,
)
from tillpress.coins import levels_of
from tillpress.customers import behind, can_serve, is_customer
from tillpress.days import served
from tillpress.errors import NoCoins, NoTill
from tillpress.likened import is_as_good, parting_row, put_in_one
from tillpress.needs import meets
from tillpress.tables import joined, table_of

PAIRS = (
    ([1, 5], [0, 0], [1, 0]), ([1, 5], [4, 0], [5, 0]), ([1, 5], [6, 0], [2, 1]), ([1, 5], [0, 1], [5, 0]),
    ([1, 5], [0, 1], [4, 0]), ([1, 5, 10], [3, 0, 9], [0, 1, 0]), ([1, 5, 10], [4, 0, 9], [0, 1, 0]),
    (FIVE, [9, 9, 9, 0, 0], [0, 0, 0, 3, 0]), (FIVE, OTHER_TILL, FIVE_TILL), (FIVE, FIVE_TILL, OTHER_TILL),
)


def serves_whole(coins, till, row):
    """Tell whether the till serves the whole row, one customer behind the other."""
    for customer, times in row:
        for _ in range(times):
            if not can_serve(coins, till, customer):
                return False
            till = behind(coins, till, customer)
    return True


def table_of_times(coins, customer, times):
    """Give the table of the customer so many times over, however many they are."""
    told = table_of(coins, [])
    for digit in f"{times:b}":
        told = joined(coins, told, told)
        if digit == "1":
            told = joined(coins, told, table_of(coins, [customer]))
    return told


def needs_of_row(coins, row):
    """List the needs of a long row."""
    told = table_of(coins, [])
    for customer, times in row:
        told = joined(coins, told, table_of_times(coins, customer, times))
    return told[1]


def is_above(coins, till, other):
    return all(a >= b for a, b in zip(plain_levels(coins, till), plain_levels(coins, other)))


class TestIsAsGood(unittest.TestCase):
    def test_told_ones(self):
        for coins, till, other, told, turned in (
            ([1, 5], [0, 0], [0, 0], True, True), ([1, 5], [5, 0], [0, 1], True, False),
            ([1, 5], [4, 0], [5, 0], False, True), ([1, 5], [4, 1], [5, 0], False, False),
            ([1, 5], [5, 1], [5, 1], True, True), ([1, 5], [6, 0], [2, 1], False, False),
            ([1, 5, 10], [3, 1, 2], [3, 3, 1], False, True), ([1, 5, 10], [3, 1, 2], [3, 3, 0], False, False),
            ([1, 100000], [0, 10 ** 29], [10 ** 29, 0], False, False),
            ([1, 100000], [10 ** 29, 10 ** 29], [10 ** 29 - 1, 10 ** 29], True, False),
        ):
            self.assertIs(is_as_good(coins, till, other), told, (till, other))
            self.assertIs(is_as_good(coins, other, till), turned, (other, till))

    def test_one_level_one_less(self):
        high = [3, 8, 48, 48, 248]
        for k in range(5):
            till = [9, 9, 9, 9, 9]
            # One coin less of number k is less at level k and at all above it.
            poorer = [many - 1 if j == k else many for j, many in enumerate(till)]
            self.assertIs(is_as_good(FIVE, till, poorer), True)
            self.assertIs(is_as_good(FIVE, poorer, till), False)
        self.assertEqual(levels_of(FIVE, [3, 1, 4, 0, 2]), high)
        # One greater coin for smaller ones of the same worth is less at the levels between alone.
        for poorer in ([3, 1, 4, 0, 2], [8, 0, 4, 0, 2], [3, 3, 3, 0, 2], [3, 1, 4, 2, 1]):
            above = all(a >= b for a, b in zip(levels_of(FIVE, poorer), high))
            self.assertIs(is_as_good(FIVE, poorer, [3, 1, 4, 0, 2]), above)

    def test_all_small_tills(self):
        for coins, most in (([1, 2], 3), ([1, 3], 3), ([1, 2, 6], 2)):
            tills = tills_up_to(coins, most)
            for till, other in product(tills, repeat=2):
                self.assertIs(is_as_good(coins, till, other), is_above(coins, till, other), (coins, till, other))

    def test_as_good_serves_each_day_that_the_other_one_does(self):
        for coins, other, day in small_days(40):
            for till in tills_up_to(coins, 3):
                if is_as_good(coins, till, other):
                    self.assertGreaterEqual(served(coins, till, day), served(coins, other, day))

    def test_refusals(self):
        for action in (is_as_good, parting_row, put_in_one):
            for till in NEVER_TILL:
                self.assertIs(refusal(action, FIVE, till, FIVE_TILL).__class__, NoTill, till)
                self.assertIs(refusal(action, FIVE, FIVE_TILL, till).__class__, NoTill, till)
                self.assertIs(refusal(action, FIVE, till, till).__class__, NoTill, till)
            for coins in (None, [1], (1, 5), [5, 1], [1, 5, 12]):
                self.assertIs(refusal(action, coins, None, None).__class__, NoCoins)
                self.assertIs(refusal(action, coins, [0, 0], [0, 0]).__class__, NoCoins)


class TestPartingRow(unittest.TestCase):
    def check_shape(self, coins, row):
        self.assertIs(type(row), list)
        self.assertLessEqual(len(row), 40)
        for part in row:
            self.assertIs(type(part), tuple)
            customer, times = part
            self.assertIs(is_customer(coins, customer), True)
            self.assertIs(type(times), int)
            self.assertGreaterEqual(times, 1)

    def check_pair(self, coins, till, other):
        row = parting_row(coins, till, other)
        if is_above(coins, till, other):
            self.assertIsNone(row, (coins, till, other))
            return False
        self.check_shape(coins, row)
        needed = needs_of_row(coins, row)
        self.assertIs(meets(coins, other, needed), True, (coins, till, other, row))
        self.assertIs(meets(coins, till, needed), False, (coins, till, other, row))
        return True

    def test_one_customer_behind_the_other(self):
        for coins, till, other in PAIRS:
            row = parting_row(coins, till, other)
            if row is None:
                self.assertTrue(is_above(coins, till, other))
                continue
            self.check_shape(coins, row)
            self.assertIs(serves_whole(coins, other, row), True, (coins, till, other, row))
            self.assertIs(serves_whole(coins, till, row), False, (coins, till, other, row))

    def test_all_small_tills(self):
        for coins, most in (([1, 2], 3), ([1, 3], 3), ([1, 5], 3), ([1, 2, 6], 2), ([1, 3, 6], 2)):
            tills = tills_up_to(coins, most)
            found = {}
            for till, other in product(tills, repeat=2):
                found[self.check_pair(coins, till, other)] = True
                row = parting_row(coins, till, other)
                if row is not None:
                    self.assertIs(serves_whole(coins, other, row), True, (coins, till, other, row))
                    self.assertIs(serves_whole(coins, till, row), False, (coins, till, other, row))
            self.assertEqual(len(found), 2)

    def test_tills_of_five_coins(self):
        chance = Random(18)
        for coins in (FIVE, [1, 2, 4, 8, 16], [1, 10, 100, 1000, 100000], [1, 2, 4, 8, 100000], [1, 2, 20, 60]):
            for _ in range(60):
                till = [chance.randrange(12) for _ in coins]
                other = [chance.randrange(12) for _ in coins]
                self.check_pair(coins, till, other)
                self.check_pair(coins, other, till)

    def test_numbers_of_many_figures(self):
        chance = Random(19)
        for coins in ([1, 2], [1, 100000], FIVE, [1, 10, 100, 1000, 100000]):
            for figures in (9, 15, 20, 30):
                for _ in range(4):
                    till = [chance.randrange(10 ** figures) for _ in coins]
                    self.check_pair(coins, till, [chance.randrange(10 ** figures) for _ in coins])
                    self.check_near(coins, till)

    def check_near(self, coins, till):
        """Liken a till to those that differ from it by one coin, or by one greater coin for smaller ones."""
        for k in range(len(coins)):
            more = [many + (j == k) for j, many in enumerate(till)]
            self.assertIs(self.check_pair(coins, till, more), True)
            self.assertIs(self.check_pair(coins, more, till), False)
            if k > 0:
                changed = list(more)
                changed[0] = changed[0] - coins[k]
                if changed[0] >= 0:
                    self.assertIs(self.check_pair(coins, till, changed), False)
                    self.assertIs(self.check_pair(coins, changed, till), True)

    def test_the_last_level_alone_one_less(self):
        # All levels below are higher in the till that is poorer by 1 at the last.
        for coins in ([1, 5], [1, 5, 10], FIVE, [1, 100000]):
            last = coins[-1]
            other = [1] + [0] * (len(coins) - 2) + [7]
            till = [7 * last] + [0] * (len(coins) - 1)
            self.assertIs(self.check_pair(coins, till, other), True)

    def test_levels_alike(self):
        for till in ([0] * 5, FIVE_TILL, [10 ** 30 - 1] * 5):
            self.assertIsNone(parting_row(FIVE, till, list(till)))


class TestPutInOne(unittest.TestCase):
    def test_told_ones(self):
        for coins, till, other, told in (
            ([1, 5], [0, 0], [0, 0], [0, 0]), ([1, 5], [3, 1], [4, 2], [7, 3]), ([1, 5], [0, 9], [9, 0], [9, 9]),
            (FIVE, FIVE_TILL, OTHER_TILL, [7, 1, 6, 0, 2]), ([1, 5], [10 ** 30 - 1, 1], [1, 0], [10 ** 30, 1]),
        ):
            self.assertEqual(put_in_one(coins, till, other), told)
            self.assertEqual(put_in_one(coins, other, till), told)

    def test_sums_of_levels_and_as_good_as_each(self):
        for coins, most in (([1, 2], 3), ([1, 2, 6], 2)):
            tills = tills_up_to(coins, most)
            for till, other in product(tills, repeat=2):
                told = put_in_one(coins, till, other)
                self.assertEqual(told, [a + b for a, b in zip(till, other)])
                sums = [a + b for a, b in zip(plain_levels(coins, till), plain_levels(coins, other))]
                self.assertEqual(levels_of(coins, told), sums)
                self.assertIs(is_as_good(coins, told, till), True)
                self.assertIs(is_as_good(coins, told, other), True)

    def test_a_till_with_itself(self):
        till = [3, 1]
        self.assertEqual(put_in_one([1, 5], till, till), [6, 2])
        self.assertEqual(till, [3, 1])

    def test_it_is_a_new_list(self):
        till, none = [3, 1], [0, 0]
        told = put_in_one([1, 5], till, none)
        told.append(9)
        self.assertEqual((till, none), ([3, 1], [0, 0]))

    def test_it_serves_what_each_one_serves(self):
        for coins, till, day in long_days(30):
            for other in ([0] * len(coins), [1] * len(coins), [2] + [0] * (len(coins) - 1)):
                both = put_in_one(coins, till, other)
                self.assertGreaterEqual(served(coins, both, day), served(coins, till, day))
                self.assertGreaterEqual(served(coins, both, day), served(coins, other, day))


if __name__ == "__main__":
    unittest.main()
