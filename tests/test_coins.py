"""Points 5 and 6: coins, tills and levels."""

import unittest

from tests.samples import FIVE, NEVER_COINS, NEVER_TILL, plain_levels, refusal, tills_up_to
from tillpress.coins import are_coins, is_till, levels_of, till_of
from tillpress.errors import NoCoins, NoLevels, NoTill


class TestAreCoins(unittest.TestCase):
    def test_coins(self):
        for coins in (
            [1, 2], [1, 5], [1, 100000], [1, 99999], [1, 2, 4], [1, 5, 10, 50], FIVE,
            [1, 2, 4, 8, 100000], [1, 10, 100, 1000, 100000], [1, 2, 4, 8, 16], [1, 3, 9, 27, 81],
        ):
            self.assertIs(are_coins(coins), True, coins)

    def test_none_of_these_is_coins(self):
        for thing in (
            [1, 100001], [1, 100000, 200000], [1, 2, 4, 8, 100008], [1, 5, 10, 50, 100, 200], [1, 2, 4, 8, 16, 32],
            [1], [], [5], [2, 4], [0, 1], [0, 5], [-1, 5], [1, 1], [1, 5, 5], [1, 5, 5, 10], [1, 2, 4, 4],
            [1, 5, 12], [1, 5, 10, 25], [1, 2, 3], [1, 2, 4, 6], [1, 10, 5], [5, 1], [1, 5, 10, 50, 75],
            [1, 0], [1, 0, 5], [1, -5], [1, 0, 0], [1, 5, 0], [1, 5, -10], [1, 5, 10, 0, 100],
            [1, True], [True, 5], [1, 5, True], [1, False], [1, "5"], ["1", 5], [1, None], [None, 5], [1, [5]],
            [[1], [5]], [(1, 5)], (1, 5), (1, 5, 10), [1, (5,)], "15", {1: 1, 5: 5}, {1, 5}, range(1, 3),
        ):
            self.assertIs(are_coins(thing), False, thing)

    def test_of_anything(self):
        for thing in NEVER_COINS:
            self.assertIs(are_coins(thing), False, thing)

    def test_within_one_another(self):
        thing = []
        other = ()
        for k in range(8):
            thing = [1, thing]
            other = (1, other)
            self.assertIs(are_coins(thing), False)
            self.assertIs(are_coins(other), False)


class TestIsTill(unittest.TestCase):
    def test_tills(self):
        for coins, till in (
            ([1, 5], [0, 0]), ([1, 5], [1, 0]), ([1, 5], [0, 1]), ([1, 5], [10 ** 30, 10 ** 29]),
            ([1, 5, 10], [0, 0, 7]), (FIVE, [0, 0, 0, 0, 0]), (FIVE, [10 ** 30 - 1] * 5), ([1, 5], [5, 1]),
        ):
            self.assertIs(is_till(coins, till), True, till)

    def test_none_of_these_is_a_till(self):
        for thing in (
            [0], [0, 0, 0], [], [-1, 0], [0, -1], [True, 0], [0, False], [None, 0], ["0", 0], (0, 0), [[0], [0]],
            [(0, 0)], "00", {0: 0, 1: 0}, {0, 1}, None, 0, True, 5, [10 ** 30, -1], [0, [0]],
        ):
            self.assertIs(is_till([1, 5], thing), False, thing)

    def test_one_number_too_many_or_too_few(self):
        for many in range(8):
            self.assertIs(is_till(FIVE, [3] * many), many == 5)
            self.assertIs(is_till([1, 2, 4], [3] * many), many == 3)

    def test_of_anything(self):
        for thing in NEVER_TILL:
            self.assertIs(is_till(FIVE, thing), False, thing)

    def test_no_coins_ahead_of_no_till(self):
        for coins in (None, [1], [1, 1], [2, 4], (1, 5), [True, 5], [1, 5, 12], "coins"):
            for thing in ([0, 0], [0], None, True, (0, 0)):
                self.assertIs(refusal(is_till, coins, thing).__class__, NoCoins)
                self.assertIs(refusal(levels_of, coins, thing).__class__, NoCoins)
                self.assertIs(refusal(till_of, coins, thing).__class__, NoCoins)


class TestLevels(unittest.TestCase):
    def test_levels(self):
        for coins, till, levels in (
            ([1, 5], [0, 0], [0, 0]), ([1, 5], [7, 0], [7, 7]), ([1, 5], [0, 2], [0, 10]),
            ([1, 5, 10], [3, 1, 2], [3, 8, 28]), (FIVE, [3, 1, 4, 0, 2], [3, 8, 48, 48, 248]),
            ([1, 2, 4, 8, 100000], [1, 1, 1, 1, 1], [1, 3, 7, 15, 100015]),
            ([1, 100000], [10 ** 29, 10 ** 29], [10 ** 29, 10 ** 29 + 10 ** 34]),
        ):
            self.assertEqual(levels_of(coins, till), levels)
            self.assertEqual(till_of(coins, levels), till)

    def test_levels_and_till_undo_one_another(self):
        for coins in ([1, 2], [1, 3, 6], [1, 2, 10, 20]):
            for till in tills_up_to(coins, 3):
                levels = levels_of(coins, till)
                self.assertEqual(levels, plain_levels(coins, till))
                self.assertEqual(till_of(coins, levels), till)

    def test_levels_are_just_those_of_some_till(self):
        coins = [1, 2, 6]
        found = {tuple(levels_of(coins, till)) for till in tills_up_to(coins, 9)}
        for first in range(-1, 9):
            for second in range(-1, 9):
                for third in range(-1, 9):
                    levels = [first, second, third]
                    if tuple(levels) in found:
                        self.assertEqual(levels_of(coins, till_of(coins, levels)), levels)
                    else:
                        self.assertIs(refusal(till_of, coins, levels).__class__, NoLevels, levels)

    def test_levels_of_no_till(self):
        for levels in (
            [5, 0], [1, 0, 0], [8, 3], [-1, 4], [-5, 0], [-1, -1], [0, -5], [0, 1], [0, 4], [3, 9], [3, 7],
            [0], [], [0, 0, 0], (0, 0), [True, 5], [0, True], [False, 0], [0, None], ["0", 0], [[0], [5]],
            None, True, 0, 5, "05", {0: 0, 1: 5}, [(0, 5)], [0, [5]],
        ):
            self.assertIs(refusal(till_of, [1, 5], levels).__class__, NoLevels, levels)

    def test_levels_that_break_at_a_later_coin(self):
        self.assertEqual(till_of([1, 5, 10], [2, 7, 17]), [2, 1, 1])
        for levels in ([2, 7, 12], [2, 7, 6], [2, 7, 18], [2, 8, 18], [2, 6, 7], [-3, 2, 12]):
            self.assertIs(refusal(till_of, [1, 5, 10], levels).__class__, NoLevels, levels)

    def test_of_no_till(self):
        for till in NEVER_TILL:
            self.assertIs(refusal(levels_of, FIVE, till).__class__, NoTill, till)


if __name__ == "__main__":
    unittest.main()
