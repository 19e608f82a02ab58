"""Points 11 and 12: days, and the ways by which they break."""

import unittest
from itertools import product

from tests.samples import (
    FIVE, FIVE_DAY, NEVER_DAY, NEVERS, OWED, falling_ways, long_days, plain_levels, plain_served, refusal, small_days,
)
from tillpress.customers import adds, behind, can_serve
from tillpress.days import breaks_by, served, till_behind, way_of_break
from tillpress.errors import NoCoins, NoDay, NoTill

OWED_TWO = (3, [0, 1])
EVEN = (5, [0, 1])


class TestServed(unittest.TestCase):
    def check(self, till, day, many, after):
        self.assertEqual(served([1, 5], till, day), many)
        self.assertEqual(till_behind([1, 5], till, day), after)
        self.assertIs(way_of_break([1, 5], till, day) is None, many == len(day))

    def test_the_empty_day(self):
        self.check([0, 0], [], 0, [0, 0])
        self.check([3, 7], [], 0, [3, 7])

    def test_served_whole(self):
        self.check([4, 0], [OWED_TWO, OWED_TWO], 2, [0, 2])
        self.check([2, 0], [OWED_TWO, EVEN, (0, [0, 0])], 3, [0, 2])
        self.check([0, 0], [(2, [2, 0]), OWED_TWO], 2, [0, 1])

    def test_breaks_at_its_first(self):
        self.check([1, 9], [OWED_TWO, EVEN], 0, [1, 9])
        self.check([1, 9], [OWED_TWO], 0, [1, 9])

    def test_breaks_in_its_midst(self):
        self.check([2, 0], [OWED_TWO, OWED_TWO, EVEN], 1, [0, 1])
        self.check([3, 0], [EVEN, OWED_TWO, OWED_TWO, (2, [2, 0]), EVEN], 2, [1, 2])

    def test_breaks_at_its_last(self):
        self.check([3, 0], [EVEN, OWED_TWO, OWED_TWO], 2, [1, 2])

    def test_those_behind_the_first_that_breaks_are_not_served(self):
        self.check([0, 0], [OWED_TWO, (2, [2, 0]), OWED_TWO], 0, [0, 0])

    def test_five_coins(self):
        self.assertEqual(served(FIVE, [3, 1, 4, 0, 2], FIVE_DAY), 3)
        self.assertEqual(till_behind(FIVE, [3, 1, 4, 0, 2], FIVE_DAY), [7, 3, 0, 2, 3])
        self.assertEqual(served(FIVE, [0, 0, 3, 0, 0], FIVE_DAY), 3)
        self.assertEqual(till_behind(FIVE, [0, 0, 3, 0, 0], FIVE_DAY), [4, 0, 0, 2, 1])
        self.assertEqual(served(FIVE, [0, 0, 2, 0, 0], FIVE_DAY), 2)
        self.assertEqual(till_behind(FIVE, [0, 0, 2, 0, 0], FIVE_DAY), [2, 1, 0, 1, 1])

    def test_one_behind_the_other(self):
        for coins, till, day in small_days(40):
            many = 0
            held = till
            while many < len(day) and can_serve(coins, held, day[many]):
                held = behind(coins, held, day[many])
                many = many + 1
            self.assertEqual(served(coins, till, day), many)
            self.assertEqual(till_behind(coins, till, day), held)

    def test_no_other_way_of_giving_serves_more(self):
        for coins, till, day in small_days(40):
            self.assertEqual(served(coins, till, day), plain_served(coins, till, day), (coins, till, day))


class TestIsDay(unittest.TestCase):
    def test_forty_and_forty_one(self):
        self.assertEqual(served([1, 5], [80, 0], [OWED_TWO] * 40), 40)
        self.assertEqual(served([1, 5], [79, 0], [OWED_TWO] * 40), 39)
        self.assertEqual(till_behind([1, 5], [80, 0], [OWED_TWO] * 40), [0, 40])
        self.assertEqual(len(way_of_break([1, 5], [79, 0], [OWED_TWO] * 40)), 40)
        self.assertIs(breaks_by([1, 5], [79, 0], [OWED_TWO] * 40, [0] * 40), True)
        self.assertIs(breaks_by([1, 5], [80, 0], [OWED_TWO] * 40, [0] * 40), False)
        for action in (served, till_behind, way_of_break):
            self.assertIs(refusal(action, [1, 5], [100, 0], [OWED_TWO] * 41).__class__, NoDay)
        self.assertIs(refusal(breaks_by, [1, 5], [100, 0], [OWED_TWO] * 41, [0]).__class__, NoDay)

    def test_anything_that_is_no_day(self):
        for day in NEVER_DAY:
            for action in (served, till_behind, way_of_break):
                self.assertIs(refusal(action, FIVE, [0] * 5, day).__class__, NoDay, day)
            for way in ([0], None, [9]):
                self.assertIs(refusal(breaks_by, FIVE, [0] * 5, day, way).__class__, NoDay, day)

    def test_a_customer_that_is_none_behind_one_that_breaks(self):
        for other in (None, (6, [0, 1]), [3, [0, 1]], (3, [0, 1, 0]), (True, [0, 1]), OWED):
            for day in ([OWED_TWO, other], [other, OWED_TWO], [other]):
                for action in (served, till_behind, way_of_break):
                    self.assertIs(refusal(action, [1, 5], [0, 0], day).__class__, NoDay, day)

    def test_the_order_of_refusals(self):
        for action, rest in ((served, []), (till_behind, []), (way_of_break, []), (breaks_by, [None])):
            self.assertIs(refusal(action, None, None, None, *rest).__class__, NoCoins)
            self.assertIs(refusal(action, [1, 5], None, None, *rest).__class__, NoTill)
            self.assertIs(refusal(action, [1, 5], [0], [OWED_TWO], *rest).__class__, NoTill)
            self.assertIs(refusal(action, [1, 5], [0, 0], None, *rest).__class__, NoDay)


class TestWayOfBreak(unittest.TestCase):
    def test_told_ones(self):
        self.assertIsNone(way_of_break([1, 5], [0, 0], []))
        self.assertIsNone(way_of_break([1, 5], [2, 0], [OWED_TWO]))
        self.assertEqual(way_of_break([1, 5], [1, 9], [OWED_TWO, EVEN]), [0])
        self.assertEqual(way_of_break([1, 5], [3, 0], [EVEN, OWED_TWO, OWED_TWO]), [0, 0, 0])
        # The ones that the first one pays go back to him, as there is nothing greater to give.
        self.assertEqual(way_of_break([1, 5], [2, 0], [(0, [5, 0]), OWED_TWO, OWED_TWO]), [1, 0, 0])

    def test_a_way_that_falls(self):
        # Five is owed ahead of two, and the till has just five: in ones, and these go first.
        day = [(5, [0, 0, 1]), (8, [0, 0, 1])]
        # Which of the two ways that break it is told is not promised.
        self.assertIn(way_of_break([1, 5, 10], [6, 0, 0], day), ([1, 0], [1, 1]))
        for way, told in (([1, 0], True), ([1, 1], True), ([0, 0], False), ([2, 1], False), ([2, 0], False)):
            self.assertIs(breaks_by([1, 5, 10], [6, 0, 0], day, way), told, way)

    def test_what_is_pressed_down_from_far_above(self):
        # All that the first one pays goes back to him, so what is lacked there is lacked ahead of him.
        for coins, till, day, way in (
            ([1, 10, 20], [2, 0, 0], [(0, [10, 0, 0]), (7, [0, 1, 0])], [2, 0]),
            ([1, 10, 20], [2, 0, 0], [(0, [0, 2, 0]), (10, [0, 0, 1])], [2, 1]),
            ([1, 10, 20], [2, 0, 0], [(0, [10, 1, 0]), (7, [0, 1, 0])], [2, 0]),
            ([1, 10, 20, 40], [2, 0, 0, 0], [(0, [10, 1, 1, 0]), (7, [0, 1, 0, 0])], [3, 0]),
            ([1, 10, 20, 40], [2, 0, 0, 0], [(0, [0, 2, 0, 0]), (0, [10, 1, 0, 0]), (7, [0, 1, 0, 0])], [3, 3, 0]),
        ):
            self.assertEqual(served(coins, till, day), len(day) - 1)
            told = way_of_break(coins, till, day)
            self.assertEqual(len(told), len(day))
            self.assertIs(breaks_by(coins, till, day, told), True)
            self.assertIs(breaks_by(coins, till, day, way), True)

    def test_every_way_told_breaks_the_day(self):
        whole = {}
        for coins, till, day in small_days(150) + long_days(300):
            way = way_of_break(coins, till, day)
            many = served(coins, till, day)
            whole[way is None] = True
            self.assertIs(way is None, many == len(day))
            if way is not None:
                self.assertIsInstance(way, list)
                self.assertEqual(len(way), many + 1)
                self.assertEqual(way, sorted(way, reverse=True))
                self.assertIs(breaks_by(coins, till, day, way), True, (coins, till, day))
        self.assertEqual(len(whole), 2)


class TestBreaksBy(unittest.TestCase):
    def test_just_by_the_sum(self):
        for coins, till, day in small_days(40):
            levels = plain_levels(coins, till)
            rows = [adds(coins, customer) for customer in day]
            broken = False
            for way in falling_ways(coins, len(day)):
                told = levels[way[0]] + sum(row[k] for row, k in zip(rows, way)) < 0
                self.assertIs(breaks_by(coins, till, day, way), told, (coins, till, day, way))
                broken = broken or told
            self.assertIs(broken, served(coins, till, day) < len(day), (coins, till, day))

    def test_just_at_0(self):
        self.assertIs(breaks_by([1, 5], [2, 0], [OWED_TWO], [0]), False)
        self.assertIs(breaks_by([1, 5], [1, 0], [OWED_TWO], [0]), True)
        self.assertIs(breaks_by([1, 5], [1, 0], [OWED_TWO], [1]), False)

    def test_ways_that_are_none(self):
        day = [OWED_TWO, OWED_TWO]
        self.assertIs(breaks_by([1, 5], [0, 0], day, [0]), True)
        self.assertIs(breaks_by([1, 5], [0, 0], day, [0, 0]), True)
        for way in (
            [], [0, 0, 0], [0] * 41, [0, 1], [-1], [0, -1], [2], [2, 0], [5, 0], [10 ** 30], [True], [False],
            [False, False], [0, False], [None], ["0"], [[0]], [0, [0]], [(0,)], (0,), (0, 0), (), {}, {0: 0}, {0},
            "0", "00", "", b"0", None, True, False, 0, 1, -1, len, object(), range(1), range(2), [0, None],
        ):
            self.assertIs(breaks_by([1, 5], [0, 0], day, way), False, way)

    def test_of_anything_as_the_way(self):
        for error in NEVERS:
            for thing in NEVERS[error]:
                self.assertIn(breaks_by([1, 5], [0, 0], [OWED_TWO] * 2, thing), (True, False), thing)
                self.assertIs(breaks_by([1, 5], [0, 0], [], thing), False, thing)

    def test_no_way_breaks_the_empty_day(self):
        for way in ([], [0], [1], [0, 0], None):
            self.assertIs(breaks_by([1, 5], [0, 0], [], way), False)

    def test_ways_that_rise(self):
        day = [(1, [0, 0, 1])] * 3
        for way in product(range(3), repeat=3):
            falls = way[0] >= way[1] >= way[2]
            if not falls:
                self.assertIs(breaks_by([1, 5, 10], [0, 0, 0], day, list(way)), False, way)
        self.assertIs(breaks_by([1, 5, 10], [0, 0, 0], day, [1, 1, 0]), True)
        self.assertIs(breaks_by([1, 5, 10], [0, 0, 0], day, [0, 0, 1]), False)


if __name__ == "__main__":
    unittest.main()
