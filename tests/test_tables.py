"""Points 15 and 16: tables, and days put together by them."""

import copy
import unittest
from itertools import product
from random import Random

from tests.samples import (
    EVEN_TABLE, FIVE, FIVE_DAY, FIVE_EVEN, FIVE_LEVELS, NEVER_DAY, NEVER_LEVELS, NEVER_TABLE, NEVER_TIMES, OWED,
    OWED_TABLE, customers_up_to, falling_ways, lists_within, long_days, plain_levels, plain_needs, refusal, small_days,
    tills_up_to,
)
from tillpress.coins import levels_of, till_of
from tillpress.customers import adds, can_serve
from tillpress.days import served, till_behind
from tillpress.errors import NoChange, NoCoins, NoDay, NoLevels, NoTable, NoTimes
from tillpress.needs import needs
from tillpress.tables import are_alike, joined, levels_by, often, table_of

OWED_TWO = (3, [0, 1])
SWAP = (0, [5, 0])
NONE = ([[0, 0], [None, 0]], [0, 0])
# What its moves take away is more than its needs ask for, so that it is of no day.
DEEP = ([[-9, -12], [None, -7]], [1, 2])


def plain_table(coins, day):
    """Give the table of a day by going through all ways that are as long as the day."""
    many = len(coins)
    rows = [adds(coins, customer) for customer in day]
    ways = [way for way in falling_ways(coins, len(day)) if len(way) == len(day)]
    sums = [(way[-1], way[0], sum(row[k] for row, k in zip(rows, way))) for way in ways]
    moves = []
    for k in range(many):
        moves.append([None] * k)
        for j in range(k, many):
            moves[k].append(min([total for last, first, total in sums if last >= k and first <= j] or [0]))
    return (moves, plain_needs(coins, day))


def plain_joined(table, then):
    """Put two tables together as the point tells it, number by number."""
    many = len(table[1])
    moves = [[None] * many for k in range(many)]
    needed = []
    for k in range(many):
        for j in range(k, many):
            moves[k][j] = min(table[0][i][j] + then[0][k][i] for i in range(k, j + 1))
        lacks = [0, table[1][k]]
        for j in range(k + 1):
            for i in range(j + 1):
                lacks.append(then[1][i] - table[0][i][j])
        needed.append(max(lacks))
    return (moves, needed)


def is_plain_table(many, moves, needed):
    """Tell whether numbers, in the shape of a table, are one."""
    for k, j in product(range(many), repeat=2):
        if j > k and moves[k][j] > moves[k][j - 1]:
            return False
        if k + 1 <= j and moves[k][j] > moves[k + 1][j]:
            return False
    return needed == sorted(needed) and needed[0] >= 0


def tables_by_chance(many, count):
    """Make so many tables, most of them of no day, the same ones each time."""
    chance = Random(15)
    out = []
    while len(out) < count:
        moves = [[None] * k + [chance.randrange(-6, 7) for _ in range(k, many)] for k in range(many)]
        needed = sorted(chance.randrange(4) for _ in range(many))
        if is_plain_table(many, moves, needed):
            out.append((moves, needed))
    return out


def with_number(table, part, places, thing):
    """Copy the table, with another thing at one place of its moves (part 0) or its needs (part 1)."""
    out = copy.deepcopy(table)
    held = out[part]
    for place in places[:-1]:
        held = held[place]
    held[places[-1]] = thing
    return out


class TestTableOf(unittest.TestCase):
    def test_the_empty_day(self):
        self.assertEqual(table_of([1, 5], []), NONE)
        self.assertEqual(table_of([1, 2, 4], []), ([[0, 0, 0], [None, 0, 0], [None, None, 0]], [0, 0, 0]))

    def test_one_customer(self):
        self.assertEqual(table_of(FIVE, [OWED]), OWED_TABLE)
        self.assertEqual(table_of(FIVE, [FIVE_EVEN]), EVEN_TABLE)
        self.assertEqual(table_of([1, 5], [OWED_TWO]), ([[-2, -2], [None, 3]], [2, 2]))
        self.assertEqual(table_of([1, 5], [SWAP]), ([[5, 0], [None, 0]], [0, 0]))

    def test_several_customers(self):
        self.assertEqual(table_of([1, 5], [SWAP, OWED_TWO]), ([[3, -2], [None, 3]], [0, 2]))
        self.assertEqual(table_of([1, 5], [OWED_TWO, SWAP]), ([[3, 3], [None, 3]], [2, 2]))

    def test_short_days_against_all_ways(self):
        for coins, till, day in small_days(150) + long_days(60):
            self.assertEqual(table_of(coins, day), plain_table(coins, day), (coins, day))

    def test_forty_customers(self):
        self.assertEqual(table_of([1, 5], [OWED_TWO] * 40), ([[-80, -80], [None, 120]], [80, 80]))
        self.assertEqual(table_of([1, 5], [SWAP] * 10 + [OWED_TWO] * 30), ([[-10, -60], [None, 90]], [10, 60]))
        day = [OWED, FIVE_EVEN] * 20
        table = table_of(FIVE, day)
        self.assertEqual(table[1], needs(FIVE, day))
        self.assertEqual(table[0][4][4], 20 * 137)
        self.assertEqual(table[0][2], [None, None, -260, -260, -260])

    def test_its_shape(self):
        for coins, till, day in small_days(20) + long_days(20):
            table = table_of(coins, day)
            self.assertIs(type(table), tuple)
            moves, needed = table
            self.assertIs(type(moves), list)
            self.assertIs(type(needed), list)
            self.assertEqual(needed, needs(coins, day))
            for k, row in enumerate(moves):
                self.assertIs(type(row), list)
                self.assertEqual([thing is None for thing in row], [j < k for j in range(len(coins))])
            self.assertTrue(is_plain_table(len(coins), moves, needed))

    def test_refusals(self):
        for day in NEVER_DAY:
            self.assertIs(refusal(table_of, FIVE, day).__class__, NoDay, day)
        self.assertIs(refusal(table_of, [1, 5], [OWED_TWO] * 41).__class__, NoDay)
        self.assertIs(refusal(table_of, [5, 1], None).__class__, NoCoins)


class TestLevelsBy(unittest.TestCase):
    def test_told_ones(self):
        for coins, levels, table, told in (
            ([1, 5], [2, 7], ([[-2, -2], [None, 3]], [2, 2]), [0, 10]), ([1, 5], [3, 8], NONE, [3, 8]),
            ([1, 5], [2, 7], ([[5, 0], [None, 0]], [0, 0]), [7, 7]), ([1, 5], [1, 6], DEEP, [-8, -1]),
            (FIVE, FIVE_LEVELS, OWED_TABLE, [5, 15, 35, 85, 285]), (FIVE, FIVE_LEVELS, EVEN_TABLE, [3, 8, 48, 48, 348]),
            ([1, 100000], [0, 10 ** 34], ([[5, 1], [None, 3]], [0, 10 ** 34]), [5, 10 ** 34 + 3]),
        ):
            self.assertEqual(levels_by(coins, levels, table), told)

    def test_against_the_till_behind_the_day(self):
        for coins, ignored, day in small_days(30):
            table = table_of(coins, day)
            for till in tills_up_to(coins, 3):
                self.check_till(coins, till, day, table)
        for coins, till, day in long_days(100):
            self.check_till(coins, till, day, table_of(coins, day))

    def check_till(self, coins, till, day, table):
        levels = levels_of(coins, till)
        if served(coins, till, day) == len(day):
            told = levels_by(coins, levels, table)
            self.assertEqual(told, plain_levels(coins, till_behind(coins, till, day)), (coins, till, day))
            self.assertEqual(till_of(coins, told), till_behind(coins, till, day))
        else:
            least = [k for k in range(len(coins)) if levels[k] < table[1][k]][0]
            refused = refusal(levels_by, coins, levels, table)
            self.assertIs(refused.__class__, NoChange)
            self.assertEqual(refused.level, least, (coins, till, day))

    def test_no_change_tells_the_least_level_below_its_need(self):
        for levels, needed, level in (
            ([0, 0, 0], [1, 1, 1], 0), ([1, 1, 1], [1, 2, 2], 1), ([1, 1, 1], [1, 1, 2], 2), ([2, 7, 7], [2, 8, 9], 1),
            ([2, 7, 17], [2, 7, 18], 2), ([2, 7, 17], [3, 7, 18], 0), ([2, 7, 17], [2, 7, 17], None),
        ):
            table = ([[0] * 3, [None, 0, 0], [None, None, 0]], needed)
            refused = refusal(levels_by, [1, 5, 10], levels, table)
            if level is None:
                self.assertIsNone(refused)
            else:
                self.assertIs(refused.__class__, NoChange)
                self.assertEqual(refused.level, level)

    def test_what_is_levels_of_no_till(self):
        for levels in NEVER_LEVELS:
            self.assertIs(refusal(levels_by, FIVE, levels, OWED_TABLE).__class__, NoLevels, levels)
        for levels in ([5, 0], [0, 4], [-5, 0], [0], [0, 5, 5], (0, 5), [True, 6], [0, None], None, True):
            self.assertIs(refusal(levels_by, [1, 5], levels, NONE).__class__, NoLevels, levels)

    def test_what_comes_first(self):
        high = ([[0, 0], [None, 0]], [9, 9])
        self.assertIs(refusal(levels_by, [5, 1], [1, 0], None).__class__, NoCoins)
        self.assertIs(refusal(levels_by, None, [1, 6], high).__class__, NoCoins)
        self.assertIs(refusal(levels_by, [1, 5], [1, 0], None).__class__, NoTable)
        self.assertIs(refusal(levels_by, [1, 5], None, ([[0, 0], [None, 0]], [9, 8])).__class__, NoTable)
        self.assertIs(refusal(levels_by, [1, 5], [1, 0], high).__class__, NoLevels)
        self.assertIs(refusal(levels_by, [1, 5], [1, 6], high).__class__, NoChange)


class TestNoTable(unittest.TestCase):
    def check_none(self, coins, table):
        levels = [10 ** 6] * len(coins)
        good = ([[None] * k + [0] * (len(coins) - k) for k in range(len(coins))], [0] * len(coins))
        for action, args in (
            (levels_by, [levels, table]), (often, [table, 1]), (joined, [table, good]), (joined, [good, table]),
        ):
            self.assertIs(refusal(action, coins, *args).__class__, NoTable, table)

    def check_one(self, coins, table):
        self.assertEqual(often(coins, table, 1), table)

    def test_another_thing_at_one_place(self):
        for table in (OWED_TABLE, EVEN_TABLE):
            self.check_one(FIVE, table)
            for k, j in product(range(5), repeat=2):
                for thing in (True, False, "0", "", [0], (0,), [], {}, b"0"):
                    self.check_none(FIVE, with_number(table, 0, [k, j], thing))
                self.check_none(FIVE, with_number(table, 0, [k, j], 0 if j < k else None))
                self.check_none(FIVE, with_number(table, 0, [k, j], -99 if j < k else None))
            for k in range(5):
                for thing in (True, False, None, "0", "", [0], (0,), -1):
                    self.check_none(FIVE, with_number(table, 1, [k], thing))
                for thing in (None, True, 0, [], (), [0] * 5, [None] * 5, tuple(table[0][k]), table[0][k][1:]):
                    if (k, thing) != (0, [0] * 5):
                        self.check_none(FIVE, with_number(table, 0, [k], thing))
                self.check_none(FIVE, with_number(table, 0, [k], table[0][k] + [table[0][k][4]]))

    def test_a_number_that_is_too_great(self):
        for k, j in product(range(5), repeat=2):
            if j > k:
                self.check_none(FIVE, with_number(EVEN_TABLE, 0, [k, j], 101))
                self.check_one(FIVE, with_number(EVEN_TABLE, 0, [k, j], 0))
        # Each bound alone: that of the place ahead in its row, and that of the row behind.
        self.check_one([1, 5], ([[3, 3], [None, 7]], [0, 0]))
        self.check_none([1, 5], ([[3, 4], [None, 7]], [0, 0]))
        self.check_one([1, 5], ([[7, 3], [None, 3]], [0, 0]))
        self.check_none([1, 5], ([[7, 4], [None, 3]], [0, 0]))
        self.check_one([1, 5, 10], ([[9, 9, 2], [None, 9, 2], [None, None, 9]], [0] * 3))
        self.check_none([1, 5, 10], ([[9, 9, 3], [None, 9, 2], [None, None, 9]], [0] * 3))
        self.check_none([1, 5, 10], ([[9, 9, 2], [None, 1, 2], [None, None, 9]], [0] * 3))

    def test_all_tables_of_small_numbers(self):
        for a, b, c, d, e in product(range(-1, 2), repeat=5):
            table = ([[a, b], [None, c]], [d, e])
            if is_plain_table(2, *table):
                self.check_one([1, 5], table)
            else:
                self.check_none([1, 5], table)
        chance = Random(16)
        found = {}
        for _ in range(2000):
            numbers = [chance.randrange(2) for _ in range(6)]
            table = ([numbers[:3], [None] + numbers[3:5], [None, None] + numbers[5:]], [0, 0, 1])
            found[is_plain_table(3, *table)] = True
            if is_plain_table(3, *table):
                self.check_one([1, 2, 4], table)
            else:
                self.check_none([1, 2, 4], table)
        self.assertEqual(len(found), 2)

    def test_needs_that_are_none(self):
        moves = OWED_TABLE[0]
        for needed in (
            [1, 0, 0, 0, 0], [0, 0, 14, 13, 14], [0] * 4, [0] * 6, [], (0,) * 5, [-1, 0, 0, 0, 0], None, True, 0, "00000",
        ):
            self.check_none(FIVE, (moves, needed))
        self.check_one(FIVE, (moves, [0, 0, 0, 0, 1]))

    def test_rows_too_many_or_too_few(self):
        moves, needed = EVEN_TABLE
        for rows in (moves[:4], moves[1:], moves + [[None] * 5], moves + [moves[4]], [], [moves], moves * 2):
            self.check_none(FIVE, (rows, needed))
        for coins in ([1, 5], [1, 5, 10], [1, 5, 10, 50]):
            self.check_none(coins, EVEN_TABLE)
        self.check_none(FIVE, NONE)

    def test_lists_and_tuples(self):
        moves, needed = OWED_TABLE
        for thing in (
            [moves, needed], (tuple(moves), needed), (moves, tuple(needed)), ([tuple(row) for row in moves], needed),
            (moves,), (moves, needed, needed), (needed, moves), moves, needed, (), [], {0: moves, 1: needed},
            (moves, needed, None), ((moves, needed),),
        ):
            self.check_none(FIVE, thing)

    def test_of_anything(self):
        for thing in NEVER_TABLE:
            self.check_none(FIVE, thing)

    def test_great_numbers(self):
        great = 10 ** 40
        table = ([[great, -great], [None, great]], [great, great + 1])
        self.check_one([1, 5], table)
        self.check_none([1, 5], ([[great, great + 1], [None, great + 1]], [0, 0]))


class TestJoined(unittest.TestCase):
    def test_two_days_as_one(self):
        days = small_days(60)
        for (coins, till, day), (more, other, then) in zip(days, days[1:]):
            if coins == more:
                told = joined(coins, table_of(coins, day), table_of(coins, then))
                self.assertEqual(told, table_of(coins, day + then), (coins, day, then))
                self.assertEqual(told[1], plain_needs(coins, day + then))
        for coins, till, day in long_days(40):
            for k in range(8):
                told = joined(coins, table_of(coins, day[:k]), table_of(coins, day[k:]))
                self.assertEqual(told, table_of(coins, day), (coins, day, k))

    def test_which_one_is_behind(self):
        swap = table_of([1, 5], [SWAP])
        two = table_of([1, 5], [OWED_TWO])
        self.assertEqual(joined([1, 5], swap, two), ([[3, -2], [None, 3]], [0, 2]))
        self.assertEqual(joined([1, 5], two, swap), ([[3, 3], [None, 3]], [2, 2]))
        self.assertEqual(joined(coins=[1, 5], then=two, table=swap), ([[3, -2], [None, 3]], [0, 2]))

    def test_tables_of_no_day(self):
        for many, coins in ((2, [1, 5]), (3, [1, 2, 4])):
            tables = tables_by_chance(many, 60)
            for table, then in zip(tables, tables[1:]):
                self.assertEqual(joined(coins, table, then), plain_joined(table, then), (table, then))
        self.assertEqual(joined([1, 5], DEEP, NONE), ([[-9, -12], [None, -7]], [9, 12]))
        self.assertEqual(joined([1, 5], NONE, DEEP), ([[-9, -12], [None, -7]], [1, 2]))

    def test_levels_behind_both(self):
        for coins, till, day in long_days(60):
            first, second = table_of(coins, day[:3]), table_of(coins, day[3:])
            levels = levels_of(coins, till)
            if served(coins, till, day) == len(day):
                behind = levels_by(coins, levels_by(coins, levels, first), second)
                self.assertEqual(levels_by(coins, levels, joined(coins, first, second)), behind)

    def test_refusals(self):
        for thing in NEVER_TABLE:
            self.assertIs(refusal(joined, FIVE, thing, OWED_TABLE).__class__, NoTable, thing)
            self.assertIs(refusal(joined, FIVE, OWED_TABLE, thing).__class__, NoTable, thing)
        self.assertIs(refusal(joined, [5, 1], None, None).__class__, NoCoins)
        self.assertIs(refusal(joined, [1, 5], None, None).__class__, NoTable)


class TestOften(unittest.TestCase):
    def test_few_times(self):
        for coins, till, day in small_days(20) + long_days(10):
            table = table_of(coins, day)
            for times in range(0, 40 // max(1, len(day)) + 1):
                if times <= 5 or not day:
                    told = often(coins, table, times)
                    self.assertEqual(told, table_of(coins, day * times), (coins, day, times))

    def test_no_time_and_once(self):
        self.assertEqual(often([1, 5], DEEP, 0), NONE)
        self.assertEqual(often([1, 5], DEEP, 1), DEEP)
        self.assertEqual(often(FIVE, OWED_TABLE, 0), table_of(FIVE, []))
        self.assertEqual(often(FIVE, OWED_TABLE, 1), OWED_TABLE)

    def test_tables_of_no_day(self):
        for many, coins in ((2, [1, 5]), (3, [1, 2, 4])):
            for table in tables_by_chance(many, 40):
                told = table
                self.assertEqual(often(coins, table, 1), table)
                for times in range(2, 12):
                    told = plain_joined(told, table)
                    self.assertEqual(often(coins, table, times), told, (table, times))

    def test_very_often(self):
        most = 10 ** 15
        two = table_of([1, 5], [OWED_TWO])
        self.assertEqual(often([1, 5], two, most), ([[-2 * most, -2 * most], [None, 3 * most]], [2 * most, 2 * most]))
        both = table_of([1, 5], [SWAP, OWED_TWO])
        self.assertEqual(often([1, 5], both, most), ([[3 * most, 3 * most - 5], [None, 3 * most]], [0, 2]))
        table = table_of(FIVE, FIVE_DAY)
        for times in (most, most - 1, 2 ** 49, 2 ** 49 - 1, 999):
            for k in (1, 7, 500):
                parts = joined(FIVE, often(FIVE, table, times - k), often(FIVE, table, k))
                self.assertEqual(often(FIVE, table, times), parts)
        self.assertEqual(often(FIVE, table, most)[1], [0, 0, 26 * most, 26 * most, 26 * most])

    def test_what_is_no_number_of_times(self):
        for times in NEVER_TIMES:
            self.assertIs(refusal(often, FIVE, OWED_TABLE, times).__class__, NoTimes, times)
        for times in (-1, 10 ** 15 + 1, 10 ** 30, True, False, None, "1", "", [1], (1,), {}, b"1"):
            self.assertIs(refusal(often, [1, 5], NONE, times).__class__, NoTimes, times)
        self.assertEqual(often([1, 5], NONE, 10 ** 15), NONE)

    def test_the_order_of_refusals(self):
        self.assertIs(refusal(often, [5, 1], None, -1).__class__, NoCoins)
        self.assertIs(refusal(often, [1, 5], OWED_TABLE, -1).__class__, NoTable)
        self.assertIs(refusal(often, [1, 5], NONE, -1).__class__, NoTimes)

    def test_every_list_is_a_new_one(self):
        for table in (NONE, DEEP):
            for times in (0, 1, 2, 3, 8):
                told = [often([1, 5], table, times), often([1, 5], table, times), joined([1, 5], table, NONE)]
                told = told + [joined([1, 5], NONE, table), table_of([1, 5], []), table_of([1, 5], [OWED_TWO])]
                lists = [one for each in told + [table] for one in lists_within(each)]
                self.assertEqual(len({id(one) for one in lists}), len(lists), times)


class TestAreAlike(unittest.TestCase):
    def test_told_ones(self):
        for day, other, told in (
            ([], [], True), ([], [(0, [0, 0])], True), ([OWED_TWO], [OWED_TWO], True), ([SWAP], [], False),
            ([OWED_TWO, SWAP], [SWAP, OWED_TWO], False), ([(0, [0, 1])], [], True), ([OWED_TWO], [(3, [5, 0])], False),
            ([(3, [3, 0])], [(3, [3, 1])], True), ([(2, [2, 0]), (3, [3, 0])], [(5, [5, 0])], True),
            # The same moves, but other needs.
            ([OWED_TWO, (2, [2, 0])], [(2, [2, 0]), OWED_TWO], False),
        ):
            self.assertIs(are_alike([1, 5], day, other), told, (day, other))
            self.assertIs(are_alike([1, 5], other, day), told, (day, other))

    def test_just_where_the_same_tills_are_served_with_the_same_levels_behind(self):
        found = {}
        for coins, paid in (([1, 2], 2), ([1, 3], 1), ([1, 2, 4], 1)):
            tills = tills_up_to(coins, 6)
            chance = Random(17)
            customers = customers_up_to(coins, paid)
            days = [[chance.choice(customers) for _ in range(chance.randrange(3))] for _ in range(14)]
            kept = [[self.behind(coins, till, day) for till in tills] for day in days]
            for (day, behind), (other, after) in product(list(zip(days, kept)), repeat=2):
                told = are_alike(coins, day, other)
                self.assertIs(told, behind == after, (coins, day, other))
                self.assertIs(told, table_of(coins, day) == table_of(coins, other))
                found[told and day != other] = True
        self.assertEqual(len(found), 2)

    def behind(self, coins, till, day):
        for customer in day:
            if not can_serve(coins, till, customer):
                return None
            till = till_behind(coins, till, [customer])
        return till

    def test_refusals(self):
        for day in NEVER_DAY:
            self.assertIs(refusal(are_alike, FIVE, day, FIVE_DAY).__class__, NoDay, day)
            self.assertIs(refusal(are_alike, FIVE, FIVE_DAY, day).__class__, NoDay, day)
        self.assertIs(refusal(are_alike, [5, 1], None, None).__class__, NoCoins)


if __name__ == "__main__":
    unittest.main()
