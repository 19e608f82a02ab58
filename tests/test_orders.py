"""Points 19 and 20: customers in whatever order they come, and two that change places."""

import unittest
from itertools import permutations, product
from random import Random

from tests.samples import (
    FIVE, FIVE_DAY, FIVE_TILL, NEVER_CUSTOMER, NEVER_DAY, NEVER_TILL, OWED, customers_up_to, long_days, plain_needs,
    poor_till, refusal, small_days, tills_up_to, worth,
)
from tillpress.customers import adds
from tillpress.days import served, till_behind
from tillpress.errors import NoCoins, NoCustomer, NoDay, NoTill, TooMany
from tillpress.needs import least_float, meets
from tillpress.orders import may_change_places, needs_in_any_order, order_for
from tillpress.tables import table_of

OWED_ONE = (1, [0, 1])
OWED_TWO = (3, [0, 1])
SWAP = (0, [5, 0])
# Tills of 1, 5 and 10 and seven customers, whom just one of all their orders serves whole.
JUST_ONE = (
    ([1, 0, 0], [
        (2, [10, 0, 0]), (1, [0, 1, 1]), (2, [0, 0, 1]), (1, [0, 0, 1]), (2, [5, 0, 0]), (2, [0, 1, 1]), (0, [10, 0, 1])]),
    ([1, 0, 0], [
        (0, [5, 1, 0]), (1, [0, 1, 1]), (2, [5, 1, 1]), (2, [10, 1, 0]), (2, [0, 1, 0]), (1, [0, 0, 1]), (2, [0, 0, 1])]),
    ([2, 0, 0], [
        (2, [0, 1, 1]), (2, [0, 0, 1]), (2, [10, 1, 1]), (1, [3, 0, 1]), (1, [0, 1, 1]), (0, [10, 0, 0]), (1, [0, 0, 1])]),
)


def orders_of(day):
    """List all orders of the customers of a day, as their places and as a day, the first one first."""
    return [(list(order), [day[k] for k in order]) for order in permutations(range(len(day)))]


def first_order(coins, till, day):
    for order, ordered in orders_of(day):
        if served(coins, till, ordered) == len(day):
            return order
    return None


class TestNeedsInAnyOrder(unittest.TestCase):
    def test_told_ones(self):
        for coins, day, told in (
            ([1, 5], [], [0, 0]), (FIVE, [], [0] * 5), ([1, 5], [OWED_TWO], [2, 2]), ([1, 5], [SWAP], [0, 0]),
            ([1, 5], [OWED_TWO, (2, [2, 0])], [2, 2]), ([1, 5], [(2, [2, 0]), OWED_TWO], [2, 2]),
            ([1, 5], [OWED_TWO, OWED_ONE, SWAP], [6, 6]), ([1, 5, 10], [(3, [0, 0, 1]), (5, [0, 0, 1])], [2, 12, 12]),
            (FIVE, FIVE_DAY, [0, 0, 26, 26, 26]), ([1, 5], [OWED_TWO] * 40, [80, 80]),
        ):
            self.assertEqual(needs_in_any_order(coins, day), told, day)

    def test_the_lowest_of_what_each_one_adds(self):
        for coins, till, day in small_days(60) + long_days(60):
            rows = [adds(coins, customer) for customer in day]
            told = [sum(max(0, -min(row[:k + 1])) for row in rows) for k in range(len(coins))]
            self.assertEqual(needs_in_any_order(coins, day), told, (coins, day))

    def test_against_all_orders_of_short_days(self):
        for coins, till, day in small_days(50):
            needed = [plain_needs(coins, ordered) for order, ordered in orders_of(day)]
            told = needs_in_any_order(coins, day)
            self.assertEqual(told, [max(one[k] for one in needed) for k in range(len(coins))], (coins, day))
            for till in tills_up_to(coins, 2):
                whole = all(served(coins, till, ordered) == len(day) for order, ordered in orders_of(day))
                self.assertIs(meets(coins, till, told), whole, (coins, till, day))

    def test_just_met_and_one_less(self):
        for coins, till, day in small_days(20):
            told = needs_in_any_order(coins, day)
            held = least_float(coins, told)
            for order, ordered in orders_of(day):
                self.assertEqual(served(coins, held, ordered), len(day))
            for k, need in enumerate(told):
                if need > 0:
                    poor = poor_till(coins, k, need - 1)
                    least = min(served(coins, poor, ordered) for order, ordered in orders_of(day))
                    self.assertLess(least, len(day), (coins, day, k))

    def test_refusals(self):
        for day in NEVER_DAY:
            self.assertIs(refusal(needs_in_any_order, FIVE, day).__class__, NoDay, day)
        self.assertIs(refusal(needs_in_any_order, [1, 5], [OWED_TWO] * 41).__class__, NoDay)
        self.assertIs(refusal(needs_in_any_order, [5, 1], None).__class__, NoCoins)


class TestOrderFor(unittest.TestCase):
    def test_the_empty_day(self):
        for coins, till in (([1, 5], [0, 0]), (FIVE, FIVE_TILL)):
            self.assertEqual(order_for(coins, till, []), [])

    def test_told_ones(self):
        for till, day, told in (
            ([2, 0], [OWED_TWO], [0]), ([1, 0], [OWED_TWO], None), ([0, 0], [OWED_TWO, (2, [2, 0])], [1, 0]),
            ([2, 0], [OWED_TWO, (2, [2, 0])], [0, 1]), ([4, 0], [OWED_TWO] * 2, [0, 1]), ([3, 0], [OWED_TWO] * 2, None),
            # Who changes ones into a coin that isn't there yet adds nothing: he is to come second.
            ([4, 0], [SWAP, OWED_ONE, OWED_ONE], [1, 0, 2]), ([3, 0], [SWAP, OWED_ONE, OWED_ONE], None),
        ):
            self.assertEqual(order_for([1, 5], till, day), told, (till, day))

    def test_the_first_of_several(self):
        found = {}
        for coins, till, day in small_days(120):
            told = order_for(coins, till, day)
            self.assertEqual(told, first_order(coins, till, day), (coins, till, day))
            found[None if told is None else told == list(range(len(day)))] = True
        self.assertEqual(len(found), 3)

    def test_five_customers_by_chance(self):
        chance = Random(20)
        found = {}
        for coins in ([1, 2, 4], [1, 3, 6], [1, 2, 4, 8]):
            for _ in range(40):
                day = []
                while len(day) < 5:
                    paid = [chance.randrange(3) for _ in coins]
                    price = chance.randrange(3)
                    if worth(coins, paid) >= price:
                        day.append((price, paid))
                till = [chance.randrange(2) for _ in coins]
                told = order_for(coins, till, day)
                self.assertEqual(told, first_order(coins, till, day), (coins, till, day))
                found[None if told is None else told == list(range(5))] = True
        self.assertEqual(len(found), 3)

    def test_seven_of_whom_few_orders_serve(self):
        # Each of the four takes all ones but few, and each of the three must come between two of them.
        day = [OWED_ONE] * 4 + [SWAP] * 3
        self.assertEqual(order_for([1, 5], [4, 0], day), [0, 4, 1, 5, 2, 6, 3])
        self.assertEqual(order_for([1, 5], [4, 0], day[::-1]), [3, 0, 4, 1, 5, 2, 6])
        self.assertEqual(order_for([1, 5], [16, 0], day), [0, 1, 2, 3, 4, 5, 6])

    def test_seven_of_whom_just_one_order_serves(self):
        for till, day in JUST_ONE:
            orders = [order for order, ordered in orders_of(day) if served([1, 5, 10], till, ordered) == 7]
            self.assertEqual(len(orders), 1)
            self.assertEqual(order_for([1, 5, 10], till, day), orders[0])
            self.assertIsNone(order_for([1, 5, 10], [till[0] - 1, 0, 0], day))
            turned = day[::-1]
            self.assertEqual(order_for([1, 5, 10], till, turned), [6 - place for place in orders[0]])
            self.assertEqual(order_for([1, 5, 10], till, [day[place] for place in orders[0]]), list(range(7)))

    def test_seven_that_none_serves(self):
        self.assertIsNone(order_for([1, 5], [3, 0], [OWED_ONE] * 4 + [SWAP] * 3))
        self.assertIsNone(order_for([1, 5], [3, 0], [SWAP] * 3 + [OWED_ONE] * 4))
        self.assertIsNone(order_for(FIVE, [0] * 5, [OWED] * 7))
        self.assertIsNone(order_for([1, 5], [6, 0], [OWED_TWO] * 6 + [SWAP]))

    def test_seven_that_any_serves(self):
        self.assertEqual(order_for([1, 5], [14, 0], [OWED_TWO] * 7), [0, 1, 2, 3, 4, 5, 6])
        self.assertEqual(order_for([1, 5], [0, 0], [(5, [0, 1])] * 7), [0, 1, 2, 3, 4, 5, 6])

    def test_seven_against_all_orders(self):
        for coins, till, day in long_days(4):
            told = order_for(coins, till, day)
            self.assertEqual(told, first_order(coins, till, day), (coins, till, day))

    def test_eight_are_too_many(self):
        for day in ([OWED_TWO] * 8, [(5, [0, 1])] * 8, [SWAP] * 40):
            self.assertIs(refusal(order_for, [1, 5], [99, 0], day).__class__, TooMany)
            self.assertIs(refusal(order_for, [1, 5], [0, 0], day).__class__, TooMany)
        self.assertIs(refusal(order_for, [1, 5], [99, 0], [SWAP] * 41).__class__, NoDay)

    def test_other_refusals_come_ahead_of_too_many(self):
        eight = [OWED_TWO] * 8
        self.assertIs(refusal(order_for, [5, 1], None, eight).__class__, NoCoins)
        self.assertIs(refusal(order_for, [1, 5], None, eight).__class__, NoTill)
        self.assertIs(refusal(order_for, [1, 5], None, eight + [None]).__class__, NoTill)
        self.assertIs(refusal(order_for, [1, 5], [0, 0], eight + [None]).__class__, NoDay)
        self.assertIs(refusal(order_for, [1, 5], [0, 0], tuple(eight)).__class__, NoDay)
        for till in NEVER_TILL:
            self.assertIs(refusal(order_for, FIVE, till, [OWED] * 8).__class__, NoTill, till)
        for day in NEVER_DAY:
            self.assertIs(refusal(order_for, FIVE, FIVE_TILL, day).__class__, NoDay, day)


class TestMayChangePlaces(unittest.TestCase):
    def test_told_ones(self):
        for customer, other, told in (
            (OWED_TWO, OWED_TWO, True), (SWAP, SWAP, True), ((5, [0, 1]), (2, [2, 0]), True),
            (OWED_TWO, OWED_ONE, True), (OWED_TWO, SWAP, False), (OWED_TWO, (2, [2, 0]), False),
            ((0, [0, 0]), OWED_TWO, True), ((0, [0, 7]), SWAP, True),
        ):
            self.assertIs(may_change_places([1, 5], customer, other), told, (customer, other))
            self.assertIs(may_change_places([1, 5], other, customer), told, (other, customer))

    def test_with_himself_and_of_those_who_pay_just_their_price(self):
        for coins, paid in (([1, 2], 2), ([1, 3], 2), ([1, 2, 4], 1)):
            customers = customers_up_to(coins, paid)
            for customer in customers:
                self.assertIs(may_change_places(coins, customer, customer), True, (coins, customer))
            even = [customer for customer in customers if customer[0] == worth(coins, customer[1])]
            for customer, other in product(even, repeat=2):
                self.assertIs(may_change_places(coins, customer, other), True, (coins, customer, other))

    def test_just_where_the_tables_are_the_same(self):
        found = {}
        for coins, paid in (([1, 3], 2), ([1, 2, 4], 1)):
            tills = tills_up_to(coins, 7 if len(coins) == 2 else 4)
            customers = customers_up_to(coins, paid)[::4]
            for customer, other in product(customers, repeat=2):
                told = may_change_places(coins, customer, other)
                one, turned = [customer, other], [other, customer]
                self.assertIs(told, table_of(coins, one) == table_of(coins, turned), (coins, customer, other))
                alike = all(self.whole(coins, till, one) == self.whole(coins, till, turned) for till in tills)
                self.assertIs(told, alike, (coins, customer, other))
                found[told] = True
        self.assertEqual(len(found), 2)

    def whole(self, coins, till, day):
        """Give the till behind the day, or None where it isn't served whole."""
        return till_behind(coins, till, day) if served(coins, till, day) == len(day) else None

    def test_refusals(self):
        for thing in NEVER_CUSTOMER:
            self.assertIs(refusal(may_change_places, FIVE, thing, OWED).__class__, NoCustomer, thing)
            self.assertIs(refusal(may_change_places, FIVE, OWED, thing).__class__, NoCustomer, thing)
        for coins in (None, [1], (1, 5), [5, 1]):
            self.assertIs(refusal(may_change_places, coins, None, None).__class__, NoCoins)
            self.assertIs(refusal(may_change_places, coins, OWED_TWO, OWED_TWO).__class__, NoCoins)
        self.assertIs(refusal(may_change_places, [1, 5], OWED_TWO, OWED).__class__, NoCustomer)


if __name__ == "__main__":
    unittest.main()
