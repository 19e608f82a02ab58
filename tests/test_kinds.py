"""Point 21: kinds, and what a till needs for any row of them."""

import unittest
from itertools import combinations, product
from random import Random

from tests.samples import (
    FIVE, FIVE_EVEN, FIVE_KINDS, FIVE_NEEDS, NEVER_KINDS, NEVER_TIMES, OWED, customers_up_to, plain_needs, plain_served,
    poor_till, refusal, tills_up_to, worth,
)
from tillpress.customers import adds
from tillpress.days import served
from tillpress.errors import NoCoins, NoKinds, NoTimes
from tillpress.kinds import are_harmless, needs_for_any
from tillpress.needs import least_float, meets, needs

OWED_TWO = (3, [0, 1])
SWAP = (0, [5, 0])
EVEN = (5, [0, 1])
GREAT = 10 ** 15
# With coins 1, 5 and 10: the one takes from level 0 and gives to level 1, the other one turned about.
DOWN_UP = (4, [0, 1, 0])
UP_DOWN = (6, [1, 0, 1])


def plain_needs_for_any(coins, kinds, times):
    """Give the greatest needs of all rows of so many customers."""
    rows = [plain_needs(coins, list(row)) for row in product(kinds, repeat=times)]
    return [max(row[k] for row in rows) for k in range(len(coins))]


def step_by_step(coins, kinds, times):
    """Put one customer after another one ahead, each time whoever needs most."""
    rows = [adds(coins, customer) for customer in kinds]
    needed = [0] * len(coins)
    for _ in range(times):
        lacks = [max(needed[k] - row[k] for row in rows) for k in range(len(coins))]
        needed = [max([0] + lacks[:k + 1]) for k in range(len(coins))]
    return needed


def some_kinds(many):
    """Make so many lists of kinds for each of some coins, the same ones each time."""
    chance = Random(21)
    out = []
    for coins, paid in (([1, 2], 2), ([1, 3], 2), ([1, 2, 4], 1), ([1, 3, 6], 1)):
        customers = customers_up_to(coins, paid)
        for _ in range(many):
            out.append((coins, [chance.choice(customers) for _ in range(chance.randrange(1, 4))]))
    return out


class TestNeedsForAny(unittest.TestCase):
    def test_no_customer_needs_nothing(self):
        for coins, kinds in (([1, 5], [OWED_TWO]), ([1, 5], [OWED_TWO] * 8), (FIVE, FIVE_KINDS)):
            self.assertEqual(needs_for_any(coins, kinds, 0), [0] * len(coins))

    def test_one_customer(self):
        self.assertEqual(needs_for_any([1, 5], [OWED_TWO], 1), [2, 2])
        self.assertEqual(needs_for_any([1, 5], [SWAP], 1), [0, 0])
        self.assertEqual(needs_for_any([1, 5], [EVEN, OWED_TWO, SWAP], 1), [2, 2])
        self.assertEqual(needs_for_any(FIVE, FIVE_KINDS, 1), [0, 0, 13, 13, 13])
        self.assertEqual(needs_for_any([1, 5, 10], [(3, [0, 0, 1]), (1, [0, 1, 0])], 1), [4, 7, 7])

    def test_told_ones(self):
        for coins, kinds, times, told in (
            (FIVE, FIVE_KINDS, 2, FIVE_NEEDS), ([1, 5], [OWED_TWO, SWAP], 3, [6, 6]), ([1, 5], [SWAP], 7, [0, 0]),
            ([1, 5], [OWED_TWO, (1, [0, 1])], 3, [12, 12]), ([1, 5, 10], [DOWN_UP], 3, [3, 3, 3]),
            ([1, 5, 10], [DOWN_UP, UP_DOWN], 3, [3, 12, 12]),
        ):
            self.assertEqual(needs_for_any(coins, kinds, times), told, (coins, kinds, times))
            self.assertEqual(step_by_step(coins, kinds, times), told, (coins, kinds, times))

    def test_against_the_needs_of_all_rows(self):
        for coins, kinds in some_kinds(25):
            for times in range(5):
                told = needs_for_any(coins, kinds, times)
                self.assertEqual(told, plain_needs_for_any(coins, kinds, times), (coins, kinds, times))

    def test_just_the_tills_that_meet_them_are_served_every_row_whole(self):
        found = {}
        for coins, kinds in some_kinds(8):
            for times in range(4):
                told = needs_for_any(coins, kinds, times)
                for till in tills_up_to(coins, 3):
                    rows = product(kinds, repeat=times)
                    whole = all(plain_served(coins, till, list(row)) == times for row in rows)
                    self.assertIs(meets(coins, till, told), whole, (coins, kinds, times, till))
                    found[whole] = True
        self.assertEqual(len(found), 2)

    def test_just_met_and_one_less(self):
        for coins, kinds in some_kinds(20):
            for times in (1, 3, 4):
                told = needs_for_any(coins, kinds, times)
                rows = [list(row) for row in product(kinds, repeat=times)]
                held = least_float(coins, told)
                self.assertTrue(all(served(coins, held, row) == times for row in rows))
                for k, need in enumerate(told):
                    if need > 0:
                        poor = poor_till(coins, k, need - 1)
                        self.assertLess(min(served(coins, poor, row) for row in rows), times, (coins, kinds, k))

    def test_forty_and_more_one_by_one(self):
        for coins, kinds in some_kinds(10) + [(FIVE, FIVE_KINDS), ([1, 5, 10], [DOWN_UP, UP_DOWN])]:
            for times in (39, 40, 41, 100, 257):
                told = needs_for_any(coins, kinds, times)
                self.assertEqual(told, step_by_step(coins, kinds, times), (coins, kinds, times))
        self.assertEqual(needs_for_any([1, 5], [OWED_TWO], 40), needs([1, 5], [OWED_TWO] * 40))

    def test_very_many(self):
        for coins, kinds, told in (
            ([1, 5], [OWED_TWO], [2 * GREAT] * 2), ([1, 5], [SWAP], [0, 0]), ([1, 5], [EVEN] * 8, [0, 0]),
            (FIVE, FIVE_KINDS, [0, 0] + [13 * GREAT] * 3),
            ([1, 5, 10], [(3, [0, 0, 1])], [2 * GREAT, 7 * GREAT, 7 * GREAT]),
            ([1, 5, 10], [DOWN_UP, UP_DOWN], [GREAT, 4 * GREAT, 4 * GREAT]),
            ([1, 5, 10], [DOWN_UP], [GREAT] * 3), ([1, 5, 10], [UP_DOWN], [0, 4 * GREAT, 4 * GREAT]),
            ([1, 100000], [(1, [0, 1])], [99999 * GREAT] * 2),
        ):
            self.assertEqual(needs_for_any(coins, kinds, GREAT), told, kinds)

    def test_eight_kinds_and_one(self):
        eight = [(price, [0, 1]) for price in range(6)] + [SWAP, (0, [1, 1])]
        self.assertEqual(needs_for_any([1, 5], eight, 4), [16, 16])
        self.assertEqual(needs_for_any([1, 5], eight, 4), step_by_step([1, 5], eight, 4))
        self.assertEqual(needs_for_any([1, 5], eight, 3), plain_needs_for_any([1, 5], eight, 3))
        for customer in eight:
            self.assertEqual(needs_for_any([1, 5], [customer], 4), needs([1, 5], [customer] * 4))

    def test_a_kind_twice_and_kinds_turned_about_tell_the_same(self):
        for coins, kinds in some_kinds(10):
            told = needs_for_any(coins, kinds, 6)
            self.assertEqual(needs_for_any(coins, kinds[::-1], 6), told)
            self.assertEqual(needs_for_any(coins, kinds * 2, 6), told)

    def test_they_are_a_new_list_of_whole_numbers(self):
        for times in (0, 1, 5, GREAT):
            told = needs_for_any([1, 5], [OWED_TWO], times)
            self.assertIs(type(told), list)
            self.assertEqual([type(need) for need in told], [int, int])
            told.append(9)
            self.assertEqual(len(needs_for_any([1, 5], [OWED_TWO], times)), 2)


class TestNoKinds(unittest.TestCase):
    def test_of_anything(self):
        for kinds in NEVER_KINDS:
            for times in (0, 1, GREAT):
                self.assertIs(refusal(needs_for_any, FIVE, kinds, times).__class__, NoKinds, kinds)
            self.assertIs(refusal(are_harmless, FIVE, kinds).__class__, NoKinds, kinds)

    def test_none_nine_and_customers_that_are_none(self):
        for kinds in (
            [], [EVEN] * 9, [EVEN] * 41, (EVEN,), (EVEN, EVEN), EVEN, [list(EVEN)], [EVEN, OWED], [OWED], [None], None,
            [EVEN] * 7 + [(6, [0, 1])], [(True, [0, 1])], [(5, [0, True])], [(5, (0, 1))], [[EVEN]], {0: EVEN}, "", 1,
        ):
            self.assertIs(refusal(needs_for_any, [1, 5], kinds, 3).__class__, NoKinds, kinds)
            self.assertIs(refusal(are_harmless, [1, 5], kinds).__class__, NoKinds, kinds)
        for many in range(1, 9):
            self.assertEqual(needs_for_any([1, 5], [EVEN] * many, 3), [0, 0])
            self.assertIs(are_harmless([1, 5], [EVEN] * many), True)

    def test_times_that_are_none(self):
        for times in NEVER_TIMES + [-1, GREAT + 1, 10 ** 30, True, False, None, "1", [1], (1,), 1.0]:
            self.assertIs(refusal(needs_for_any, FIVE, FIVE_KINDS, times).__class__, NoTimes, times)
        self.assertIsNone(refusal(needs_for_any, FIVE, FIVE_KINDS, GREAT))

    def test_the_order_of_refusals(self):
        self.assertIs(refusal(needs_for_any, [5, 1], [], -1).__class__, NoCoins)
        self.assertIs(refusal(needs_for_any, [1, 5], [], -1).__class__, NoKinds)
        self.assertIs(refusal(needs_for_any, [1, 5], [EVEN], -1).__class__, NoTimes)
        self.assertIs(refusal(are_harmless, [5, 1], []).__class__, NoCoins)


class TestAreHarmless(unittest.TestCase):
    def test_told_ones(self):
        for coins, kinds, told in (
            ([1, 5], [EVEN], True), ([1, 5], [SWAP], True), ([1, 5], [OWED_TWO], 0), ([1, 5], [EVEN, OWED_TWO], 0),
            ([1, 5, 10], [DOWN_UP], 0), ([1, 5, 10], [UP_DOWN], 1), ([1, 5, 10], [UP_DOWN, DOWN_UP], 0),
            ([1, 5, 10], [(0, [0, 0, 7]), (3, [3, 0, 0])], True), (FIVE, FIVE_KINDS, 2), (FIVE, [FIVE_EVEN], True),
            (FIVE, [(50, [0, 0, 0, 0, 1])], 3), (FIVE, [OWED, (50, [0, 0, 0, 0, 1])], 2),
            (FIVE, [(95, [0, 0, 0, 0, 1]), OWED], 1), (FIVE, [OWED, (99, [0, 0, 0, 0, 1])], 0),
        ):
            told_now = are_harmless(coins, kinds)
            self.assertEqual(told_now, told, (coins, kinds))
            self.assertIs(type(told_now), type(told), (coins, kinds))
            self.assertEqual(are_harmless(coins, kinds[::-1]), told)

    def test_true_just_where_nothing_is_needed_for_any_many(self):
        found = {}
        for coins, kinds in some_kinds(150):
            told = are_harmless(coins, kinds)
            found[repr(told)] = True
            for times in (1, 2, 7, GREAT):
                self.assertIs(needs_for_any(coins, kinds, times) == [0] * len(coins), told is True, (coins, kinds))
        self.assertEqual(sorted(found), ["0", "1", "True"])

    def test_else_the_least_level_that_some_kind_lowers(self):
        for coins, kinds in some_kinds(150):
            rows = [adds(coins, customer) for customer in kinds]
            lowered = [k for k in range(len(coins)) if any(row[k] < 0 for row in rows)]
            told = are_harmless(coins, kinds)
            if not lowered:
                self.assertIs(told, True)
            else:
                self.assertIs(type(told), int)
                self.assertEqual(told, lowered[0])
                self.assertLess(told, len(coins) - 1)

    def test_some_needs_grow_without_end_where_they_are_not(self):
        for coins, kinds in some_kinds(60):
            if are_harmless(coins, kinds) is not True:
                told = [needs_for_any(coins, kinds, times)[-1] for times in (10, 100, 1000, GREAT)]
                self.assertTrue(told[0] >= 10 and told[1] >= 100 and told[2] >= 1000 and told[3] >= GREAT, kinds)

    def test_who_pay_just_their_price(self):
        for coins, paid in (([1, 2], 2), ([1, 3, 6], 1), (FIVE, 1)):
            every = [(worth(coins, many), list(many)) for many in product(range(paid + 1), repeat=len(coins))]
            for kinds in ([every[0]], every[-8:], every[:8]):
                self.assertIs(are_harmless(coins, kinds), True)
                self.assertEqual(needs_for_any(coins, kinds, GREAT), [0] * len(coins))

    def test_alone_and_together(self):
        for coins in ([1, 3], [1, 2, 4]):
            customers = customers_up_to(coins, 1)
            alone = {k: are_harmless(coins, [customer]) for k, customer in enumerate(customers)}
            for k, j in combinations(range(len(customers)), 2):
                together = are_harmless(coins, [customers[k], customers[j]])
                both = [alone[k], alone[j]]
                if all(one is True for one in both):
                    self.assertIs(together, True)
                else:
                    self.assertEqual(together, min(one for one in both if one is not True))

    def test_the_first_need_of_five_coins(self):
        self.assertEqual(needs_for_any(FIVE, [OWED, FIVE_EVEN, (50, [0, 0, 0, 0, 1])], 1), [0, 0, 13, 50, 50])


if __name__ == "__main__":
    unittest.main()
