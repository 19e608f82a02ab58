"""Point 22: a till at work."""

import copy
import unittest
from itertools import product
from random import Random

from tests.samples import (
    FIVE, FIVE_DAY, FIVE_LEVELS, FIVE_TILL, NEVER_COINS, NEVER_CUSTOMER, NEVER_TILL, OWED, customers_up_to, long_days,
    plain_levels, refusal, small_days, tills_up_to, worth,
)
from tillpress.customers import behind, can_serve, given_out
from tillpress.days import served, till_behind
from tillpress.errors import NoChange, NoCoins, NoCustomer, NoSwap, NoTill
from tillpress.tills import Till

OWED_TWO = (3, [0, 1])
NEVER_COUNTS = [
    None, True, False, 0, 5, "", "00", "0 0", (), (0, 0), {}, {0: 0, 1: 0}, {0, 1}, [], [0], [0, 0, 0], [-1, 0],
    [0, -1], [5, -1], [True, 0], [0, False], [None, 0], ["0", 0], [[0], [0]], [(0, 0)], b"00", range(2), len, 1.0,
]


def state_of(one):
    """Tell all that a Till tells but its log."""
    return (one.till(), one.levels(), len(one))


class TestMaking(unittest.TestCase):
    def test_what_lies_in_it_at_first(self):
        one = Till(FIVE, FIVE_TILL)
        self.assertEqual(one.till(), FIVE_TILL)
        self.assertEqual(one.levels(), FIVE_LEVELS)
        self.assertEqual(len(one), 0)
        self.assertEqual(one.log(), [])

    def test_arguments_by_their_names(self):
        one = Till(till=[3, 1], coins=[1, 5])
        one.serve(customer=OWED_TWO)
        one.swap(back=[5, 0], out=[0, 1])
        one.put(coins_in=[1, 1])
        self.assertEqual(one.till(), [7, 2])

    def test_refusals(self):
        for coins in NEVER_COINS:
            self.assertIs(refusal(Till, coins, FIVE_TILL).__class__, NoCoins, coins)
            self.assertIs(refusal(Till, coins, None).__class__, NoCoins, coins)
        for till in NEVER_TILL:
            self.assertIs(refusal(Till, FIVE, till).__class__, NoTill, till)
        self.assertIs(refusal(Till, [1, 5], [0, 0, 0]).__class__, NoTill)
        self.assertIs(refusal(Till, till=None, coins=None).__class__, NoCoins)

    def test_two_made_of_the_same_lists_stay_apart(self):
        coins, till = [1, 5], [4, 1]
        one, other = Till(coins, till), Till(coins, till)
        one.serve(OWED_TWO)
        one.put([1, 0])
        self.assertEqual(state_of(other), ([4, 1], [4, 9], 0))
        self.assertEqual(other.log(), [])
        other.swap([0, 1], [5, 0])
        self.assertEqual(state_of(one), ([3, 2], [3, 13], 1))
        self.assertEqual(state_of(other), ([9, 0], [9, 9], 0))
        self.assertEqual((coins, till), ([1, 5], [4, 1]))

    def test_changing_what_it_was_made_of_changes_nothing_in_it(self):
        coins, till = [1, 5], [4, 1]
        one = Till(coins, till)
        till[0] = 99
        coins[1] = 7
        coins.append(14)
        self.assertEqual(state_of(one), ([4, 1], [4, 9], 0))
        self.assertEqual(one.serve(OWED_TWO), [2, 0])
        till.clear()
        coins.clear()
        self.assertEqual(state_of(one), ([2, 2], [2, 12], 1))


class TestServe(unittest.TestCase):
    def test_told_ones(self):
        one = Till([1, 5], [4, 0])
        self.assertEqual(one.serve(OWED_TWO), [2, 0])
        self.assertEqual(state_of(one), ([2, 1], [2, 7], 1))
        self.assertEqual(one.serve((0, [0, 2])), [0, 2])
        self.assertEqual(state_of(one), ([2, 1], [2, 7], 2))
        self.assertEqual(one.serve((2, [2, 0])), [0, 0])
        self.assertEqual(state_of(one), ([4, 1], [4, 9], 3))
        self.assertEqual(one.serve((0, [0, 0])), [0, 0])
        self.assertEqual(state_of(one), ([4, 1], [4, 9], 4))

    def test_against_given_out_and_behind(self):
        found = {}
        for coins, paid in (([1, 2], 2), ([1, 3], 2), ([1, 2, 4], 1)):
            for till in tills_up_to(coins, 2):
                for customer in customers_up_to(coins, paid)[::3]:
                    self.check_one(coins, till, customer, found)
        self.assertEqual(len(found), 2)

    def check_one(self, coins, till, customer, found):
        one = Till(coins, till)
        whole = can_serve(coins, till, customer)
        found[whole] = True
        if whole:
            self.assertEqual(one.serve(customer), given_out(coins, till, customer))
            after = behind(coins, till, customer)
            self.assertEqual(state_of(one), (after, plain_levels(coins, after), 1))
        else:
            refused = refusal(one.serve, customer)
            self.assertIs(refused.__class__, NoChange)
            self.assertEqual(refused.level, refusal(given_out, coins, till, customer).level)
            self.assertEqual(state_of(one), (till, plain_levels(coins, till), 0))
        self.assertEqual(one.log(), ["in serve", "out serve"])

    def test_a_day_out_of_it(self):
        for coins, till, day in small_days(40) + long_days(40):
            one = Till(coins, till)
            many = served(coins, till, day)
            for customer in day[:many]:
                one.serve(customer)
            after = till_behind(coins, till, day)
            self.assertEqual(state_of(one), (after, plain_levels(coins, after), many))
            if many < len(day):
                self.assertIs(refusal(one.serve, day[many]).__class__, NoChange)
                self.assertEqual(state_of(one), (after, plain_levels(coins, after), many))

    def test_no_change_has_its_level(self):
        for till, customer, level in (
            ([1, 9, 9], (3, [0, 0, 1]), 0), ([2, 0, 9], (3, [0, 0, 1]), 1), ([0, 0, 0], (5, [0, 0, 1]), 1),
            ([3, 0, 0], (1, [0, 1, 0]), 0), ([0, 0, 0], (1, [0, 0, 1]), 0),
        ):
            one = Till([1, 5, 10], till)
            refused = refusal(one.serve, customer)
            self.assertIs(refused.__class__, NoChange)
            self.assertEqual(refused.level, level, (till, customer))

    def test_what_is_no_customer(self):
        one = Till(FIVE, [0] * 5)
        for many, customer in enumerate(NEVER_CUSTOMER):
            self.assertIs(refusal(one.serve, customer).__class__, NoCustomer, customer)
            self.assertEqual(state_of(one), ([0] * 5, [0] * 5, 0))
            self.assertEqual(one.log(), ["in serve", "out serve"] * (many + 1))
        self.assertIs(refusal(Till([1, 5], [9, 9]).serve, OWED).__class__, NoCustomer)

    def test_what_is_handed_in_stays_as_it_was_and_is_not_kept(self):
        one = Till(FIVE, FIVE_TILL)
        customer = copy.deepcopy(OWED)
        told = one.serve(customer)
        self.assertEqual(customer, OWED)
        state = state_of(one)
        customer[1].clear()
        told.clear()
        self.assertEqual(state_of(one), state)
        self.assertEqual(one.serve(OWED), given_out(FIVE, state[0], OWED))


class TestSwap(unittest.TestCase):
    def test_told_ones(self):
        for till, out, back, after in (
            ([0, 1], [0, 1], [5, 0], [5, 0]), ([5, 0], [5, 0], [0, 1], [0, 1]), ([9, 3], [5, 1], [0, 2], [4, 4]),
            ([9, 3], [0, 0], [0, 0], [9, 3]), ([0, 0], [0, 0], [0, 0], [0, 0]), ([9, 3], [9, 3], [9, 3], [9, 3]),
            ([9, 3], [5, 0], [5, 0], [9, 3]), ([0, 10 ** 29], [0, 10 ** 29], [5 * 10 ** 29, 0], [5 * 10 ** 29, 0]),
        ):
            one = Till([1, 5], till)
            self.assertIsNone(one.swap(out, back))
            self.assertEqual(state_of(one), (after, plain_levels([1, 5], after), 0))
            self.assertEqual(one.log(), ["in swap", "out swap"])

    def test_one_list_as_both(self):
        one = Till([1, 5], [3, 1])
        coins = [2, 1]
        one.swap(coins, coins)
        self.assertEqual(one.till(), [3, 1])
        self.assertEqual(coins, [2, 1])

    def test_another_worth(self):
        one = Till([1, 5], [9, 9])
        for out, back in (
            ([0, 1], [4, 0]), ([0, 1], [6, 0]), ([1, 0], [0, 0]), ([0, 0], [1, 0]), ([0, 1], [0, 2]), ([5, 0], [5, 1]),
            ([1, 0], [0, 1]), ([0, 1], [1, 0]),
        ):
            self.check_refused(one, out, back)

    def test_more_out_than_lie_there(self):
        one = Till([1, 5], [5, 1])
        for out, back in (
            ([0, 2], [10, 0]), ([10, 0], [0, 2]), ([6, 0], [6, 0]), ([0, 2], [0, 2]), ([6, 1], [1, 2]),
            # Of the other coin there is more than enough, and what comes back does not lie there yet.
            ([0, 2], [5, 1]), ([0, 10 ** 20], [0, 10 ** 20]),
        ):
            self.check_refused(one, out, back)
        one.swap([5, 1], [0, 2])
        self.assertEqual(one.till(), [0, 2])

    def test_lists_that_are_none(self):
        one = Till([1, 5], [9, 9])
        for thing in NEVER_COUNTS:
            self.check_refused(one, thing, [0, 0])
            self.check_refused(one, [0, 0], thing)
            self.check_refused(one, thing, thing)
        five = Till(FIVE, FIVE_TILL)
        for thing in NEVER_TILL:
            self.check_refused(five, thing, [0] * 5)
            self.check_refused(five, [0] * 5, thing)

    def check_refused(self, one, out, back):
        state, log = state_of(one), one.log()
        before = repr((out, back))
        self.assertIs(refusal(one.swap, out, back).__class__, NoSwap, (out, back))
        self.assertEqual(state_of(one), state)
        self.assertEqual(one.log(), log + ["in swap", "out swap"])
        self.assertEqual(repr((out, back)), before)

    def test_all_small_swaps(self):
        found = {}
        for coins, till in (([1, 2], [2, 1]), ([1, 3], [3, 1])):
            for out, back in product(tills_up_to(coins, 3), repeat=2):
                one = Till(coins, till)
                if worth(coins, out) == worth(coins, back) and all(a <= b for a, b in zip(out, till)):
                    one.swap(out, back)
                    self.assertEqual(one.till(), [a - b + c for a, b, c in zip(till, out, back)])
                    self.assertEqual(one.levels()[-1], worth(coins, till))
                    found[True] = True
                else:
                    self.check_refused(one, out, back)
                    found[False] = True
        self.assertEqual(len(found), 2)

    def test_changing_what_was_swapped_changes_nothing(self):
        one = Till([1, 5], [9, 3])
        out, back = [5, 0], [0, 1]
        one.swap(out, back)
        out.clear()
        back[1] = 99
        self.assertEqual(one.till(), [4, 4])


class TestPut(unittest.TestCase):
    def test_told_ones(self):
        for till, more, after in (
            ([0, 0], [0, 0], [0, 0]), ([0, 0], [3, 1], [3, 1]), ([9, 3], [1, 0], [10, 3]), ([9, 3], [0, 7], [9, 10]),
            ([1, 1], [10 ** 29, 10 ** 29], [10 ** 29 + 1, 10 ** 29 + 1]),
        ):
            one = Till([1, 5], till)
            self.assertIsNone(one.put(more))
            self.assertEqual(state_of(one), (after, plain_levels([1, 5], after), 0))
            self.assertEqual(one.log(), ["in put", "out put"])

    def test_what_is_none(self):
        one = Till([1, 5], [9, 9])
        for many, thing in enumerate(NEVER_COUNTS):
            self.assertIs(refusal(one.put, thing).__class__, NoTill, thing)
            self.assertEqual(state_of(one), ([9, 9], [9, 54], 0))
            self.assertEqual(one.log(), ["in put", "out put"] * (many + 1))
        five = Till(FIVE, FIVE_TILL)
        for thing in NEVER_TILL:
            self.assertIs(refusal(five.put, thing).__class__, NoTill, thing)
        self.assertEqual(five.till(), FIVE_TILL)

    def test_changing_what_was_put_changes_nothing(self):
        one = Till([1, 5], [0, 0])
        more = [3, 1]
        one.put(more)
        self.assertEqual(more, [3, 1])
        more[0] = 99
        one.put(one.till())
        self.assertEqual(one.till(), [6, 2])


class TestLog(unittest.TestCase):
    def test_in_and_out_of_each_deed_also_of_a_refused_one(self):
        one = Till([1, 5], [2, 0])
        words = []
        for action, args, error in (
            (one.serve, [OWED_TWO], None), (one.serve, [OWED_TWO], NoChange), (one.serve, [None], NoCustomer),
            (one.swap, [[0, 1], [5, 0]], None), (one.swap, [[0, 1], [5, 0]], NoSwap), (one.swap, [None, None], NoSwap),
            (one.put, [[1, 1]], None), (one.put, [[1]], NoTill), (one.serve, [OWED_TWO], None),
        ):
            told = refusal(action, *args)
            self.assertIs(None if told is None else told.__class__, error, (action, args))
            words.extend(["in " + action.__name__, "out " + action.__name__])
            self.assertEqual(one.log(), words)
        self.assertEqual(state_of(one), ([4, 2], [4, 14], 2))

    def test_what_is_asked_is_not_in_it(self):
        one = Till([1, 5], [2, 0])
        one.till(), one.levels(), one.log(), len(one)
        self.assertEqual(one.log(), [])

    def test_three_hundred_deeds(self):
        chance = Random(22)
        coins, held, many, log = [1, 5, 10], [3, 1, 2], 0, []
        one = Till(coins, held)
        customers = customers_up_to(coins, 1)
        for _ in range(300):
            word = chance.choice(["serve", "swap", "put"])
            if word == "serve":
                customer = chance.choice(customers)
                if refusal(one.serve, customer) is None:
                    held, many = behind(coins, held, customer), many + 1
            elif word == "swap":
                out, back = [[chance.randrange(6), chance.randrange(3), chance.randrange(2)] for _ in range(2)]
                if refusal(one.swap, out, back) is None:
                    held = [a - b + c for a, b, c in zip(held, out, back)]
            else:
                more = [chance.randrange(-1, 3) for _ in coins]
                if refusal(one.put, more) is None:
                    held = [a + b for a, b in zip(held, more)]
            log.extend(["in " + word, "out " + word])
            self.assertEqual(state_of(one), (held, plain_levels(coins, held), many))
            self.assertEqual(one.log(), log)
        self.assertGreater(many, 10)


class TestNothingShared(unittest.TestCase):
    def test_every_list_told_is_a_new_one(self):
        one = Till(FIVE, FIVE_TILL)
        for customer in FIVE_DAY:
            one.serve(customer)
        for ask in (one.till, one.levels, one.log):
            first, second = ask(), ask()
            self.assertEqual(first, second)
            self.assertIs(type(first), list)
            self.assertIsNot(first, second)
            kept = list(first)
            first.clear()
            self.assertEqual(ask(), kept)
        self.assertEqual(len(one), 3)

    def test_what_was_told_does_not_change_with_it(self):
        one = Till([1, 5], [4, 0])
        told = (one.till(), one.levels(), one.log(), one.serve(OWED_TWO))
        one.serve(OWED_TWO)
        one.put([1, 1])
        self.assertEqual(told, ([4, 0], [4, 4], [], [2, 0]))

    def test_what_is_given_is_kept_by_no_one(self):
        one = Till([1, 5], [4, 0])
        given = one.serve(OWED_TWO)
        given.append(9)
        self.assertEqual(one.serve(OWED_TWO), [2, 0])
        self.assertEqual(len(one), 2)


if __name__ == "__main__":
    unittest.main()
