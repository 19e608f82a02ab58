"""What several tests use: the interface with sample arguments, things of all sorts, and brute force."""

import copy
from itertools import combinations_with_replacement, product
from random import Random

from tillpress import coins as coins_file
from tillpress import customers as customers_file
from tillpress import days as days_file
from tillpress import errors as errors_file
from tillpress import kinds as kinds_file
from tillpress import likened as likened_file
from tillpress import needs as needs_file
from tillpress import orders as orders_file
from tillpress import tables as tables_file
from tillpress import texts as texts_file

FIVE = [1, 5, 10, 50, 100]
OWED = (37, [2, 1, 0, 2, 0])
FIVE_EVEN = (100, [0, 0, 0, 0, 1])
FIVE_TILL = [3, 1, 4, 0, 2]
FIVE_LEVELS = [3, 8, 48, 48, 248]
OTHER_TILL = [4, 0, 2, 0, 0]
FIVE_DAY = [OWED, FIVE_EVEN, OWED]
FIVE_NEEDS = [0, 0, 26, 26, 26]
FIVE_KINDS = [OWED, FIVE_EVEN]
FIVE_TEXT = "coins 1 5 10 50 100\ntill 3 1 4 0 2\npays 37 2 1 0 2 0\npays 100 0 0 0 0 1\npays 37 2 1 0 2 0"
# The table of a day of OWED alone; he adds 2, 7, -13, 37, 37.
OWED_TABLE = ([
    [2, 2, -13, -13, -13],
    [None, 7, -13, -13, -13],
    [None, None, -13, -13, -13],
    [None, None, None, 37, 37],
    [None, None, None, None, 37],
], [0, 0, 13, 13, 13])
# The table of a day of FIVE_EVEN alone; he adds 0, 0, 0, 0, 100.
EVEN_TABLE = ([
    [0, 0, 0, 0, 0],
    [None, 0, 0, 0, 0],
    [None, None, 0, 0, 0],
    [None, None, None, 0, 0],
    [None, None, None, None, 100],
], [0, 0, 0, 0, 0])


class Odd:
    """An object of no kind that the program knows."""


# None of these is coins, a till, levels, a customer, a day, a way, needs, a table, kinds or a writing of FIVE.
NEVER = [
    None, True, False, -1, 0, 1, 7, 10 ** 30, "", "1", "[1, 5]", "coins", b"", b"\x01\x05",
    (), (1, 5), (1, 5, 10, 50, 100), (3, 1, 4, 0, 2), ([1, 5, 10, 50, 100],), (0, 0),
    {}, {1: 5}, {"price": 3}, {1, 5}, frozenset(), range(5), Odd, Odd(), len, 1.5, -0.5,
    [None], [True], [True, 5, 10, 50, 100], ["1"], [[]], [[1]], [[1, 5, 10, 50, 100]], [()], [(1,)],
    [-1], [-1, 0, 0, 0, 0], [0, 0, 0, 0, -1], [0, 0, 0, 0, None], [0, 0, 0, False, 0],
    ["0", "0", "0", "0", "0"], [[0], [0], [0], [0], [0]], [(0, 0, 0, 0, 0)], [1.0, 5.0],
    [1, [5, [10, [50, (100, [])]]]], (1, (5, [10, ((50,), 100)])), [0] * 6, [0] * 500,
]
NEVER_COINS = NEVER + [[], [1], [0], [2], [0, 0, 0, 0, 0]]
NEVER_TILL = NEVER + [[], [0], [1, 5], [0] * 4]
NEVER_CUSTOMER = NEVER + [
    [], [0], [0] * 5, [0, [0] * 5], (0,), (0, [0] * 5, 0), (0, (0,) * 5), (0, [0] * 4), (0, [0] * 6),
    (True, [1, 0, 0, 0, 0]), (False, [0] * 5), (None, [0] * 5), ("0", [0] * 5), (0, None), (0, "00000"),
    (0, [True, 0, 0, 0, 0]), (0, [0, 0, 0, 0, None]), (0, [[0] * 5]), (-1, [0] * 5), (0, [-1, 1, 0, 0, 0]),
    ([0], [0] * 5), ((0, [0] * 5),), ([0] * 5, 0), (0, {}), (0, {0: 0, 1: 0, 2: 0, 3: 0, 4: 0}),
]
NEVER_DAY = NEVER + [
    (OWED,), OWED, [list(OWED)], [OWED, None], [[OWED]], [(OWED,)], [OWED, (1, [0] * 5)], [0] * 5, {0: OWED},
    [OWED] * 41, [OWED, OWED, True],
]
NEVER_LEVELS = NEVER_TILL + [[1, 2, 3, 4, 5]]
NEVER_NEEDS = NEVER_TILL + [[1, 0, 0, 0, 0], [0, 0, 0, 1, 0], [3, 8, 48, 47, 248], [5, 4, 3, 2, 1]]
NEVER_TABLE = NEVER_NEEDS + [
    [0] * 5, OWED_TABLE[0], list(OWED_TABLE), (OWED_TABLE[0],), OWED_TABLE[::-1], OWED_TABLE + ([],),
    OWED_TABLE + OWED_TABLE, (OWED_TABLE,), [OWED_TABLE], (None, OWED_TABLE[1]), (OWED_TABLE[0], None),
    ([], []), ([[], [], [], [], []], [0] * 5), ([[0] * 5] * 5, [0] * 5), (0, 0), (True, False), ((), ()),
    (tuple(OWED_TABLE[0]), OWED_TABLE[1]), ([tuple(row) for row in OWED_TABLE[0]], OWED_TABLE[1]),
    (OWED_TABLE[0], tuple(OWED_TABLE[1])), {0: OWED_TABLE[0], 1: OWED_TABLE[1]},
]

NEVER_KINDS = NEVER_DAY + [[], [OWED] * 9, [OWED] * 40, [FIVE_EVEN, OWED, None], [FIVE_KINDS], {0: OWED, 1: OWED}]
NEVER_TEXT = NEVER_DAY + [
    FIVE_TEXT.encode(), [FIVE_TEXT], (FIVE_TEXT,), FIVE_TEXT.split("\n"), tuple(FIVE_TEXT.split("\n")),
    (FIVE, FIVE_TILL, FIVE_DAY), {0: FIVE_TEXT}, {FIVE_TEXT}, FIVE_TEXT + "\n", "\n" + FIVE_TEXT, FIVE_TEXT.upper(),
    FIVE_TEXT.replace("\n", ";"), FIVE_TEXT.replace("till 3", "till"), " ", "\n", "\n\n", "\t",
]


def never_in(numbers):
    """List what is none of these numbers; of those in NEVER, the truths and the texts stay."""
    return [thing for thing in NEVER + NEVER_TILL if repr(thing) not in [str(number) for number in numbers]]


NEVER_LEVEL = never_in(range(5)) + [5, 6, 10 ** 15]
NEVER_TIMES = never_in(range(10)) + [10 ** 15 + 1, 10 ** 16]

# Each function of the interface, with arguments by their names, and what each one is refused with.
FUNCTIONS = [
    (coins_file.are_coins, {"thing": FIVE}, {}),
    (coins_file.is_till, {"coins": FIVE, "thing": FIVE_TILL}, {"coins": errors_file.NoCoins}),
    (coins_file.levels_of, {"coins": FIVE, "till": FIVE_TILL}, {
        "coins": errors_file.NoCoins, "till": errors_file.NoTill}),
    (coins_file.till_of, {"coins": FIVE, "levels": [3, 8, 48, 48, 248]}, {
        "coins": errors_file.NoCoins, "levels": errors_file.NoLevels}),
    (customers_file.is_customer, {"coins": FIVE, "thing": OWED}, {"coins": errors_file.NoCoins}),
    (customers_file.change_of, {"coins": FIVE, "customer": OWED}, {
        "coins": errors_file.NoCoins, "customer": errors_file.NoCustomer}),
    (customers_file.adds, {"coins": FIVE, "customer": OWED}, {
        "coins": errors_file.NoCoins, "customer": errors_file.NoCustomer}),
]
for one in (customers_file.can_serve, customers_file.given_out, customers_file.behind, customers_file.all_ways):
    FUNCTIONS.append((one, {"coins": FIVE, "till": FIVE_TILL, "customer": OWED}, {
        "coins": errors_file.NoCoins, "till": errors_file.NoTill, "customer": errors_file.NoCustomer}))
for one in (days_file.served, days_file.till_behind, days_file.way_of_break):
    FUNCTIONS.append((one, {"coins": FIVE, "till": FIVE_TILL, "day": FIVE_DAY}, {
        "coins": errors_file.NoCoins, "till": errors_file.NoTill, "day": errors_file.NoDay}))
FUNCTIONS.append((
    days_file.breaks_by, {"coins": FIVE, "till": FIVE_TILL, "day": FIVE_DAY, "way": [2, 2]}, {
        "coins": errors_file.NoCoins, "till": errors_file.NoTill, "day": errors_file.NoDay}))
for one in (needs_file.needs, tables_file.table_of, orders_file.needs_in_any_order):
    FUNCTIONS.append((one, {"coins": FIVE, "day": FIVE_DAY}, {
        "coins": errors_file.NoCoins, "day": errors_file.NoDay}))
for one in (likened_file.is_as_good, likened_file.parting_row, likened_file.put_in_one):
    FUNCTIONS.append((one, {"coins": FIVE, "till": OTHER_TILL, "other": FIVE_TILL}, {
        "coins": errors_file.NoCoins, "till": errors_file.NoTill, "other": errors_file.NoTill}))
FUNCTIONS.extend([
    (needs_file.way_for, {"coins": FIVE, "day": FIVE_DAY, "level": 3}, {
        "coins": errors_file.NoCoins, "day": errors_file.NoDay, "level": errors_file.NoLevels}),
    (needs_file.meets, {"coins": FIVE, "till": FIVE_TILL, "needed": FIVE_NEEDS}, {
        "coins": errors_file.NoCoins, "till": errors_file.NoTill, "needed": errors_file.NoNeeds}),
    (needs_file.least_float, {"coins": FIVE, "needed": FIVE_NEEDS}, {
        "coins": errors_file.NoCoins, "needed": errors_file.NoNeeds}),
    # Its point tells another order than that of the places: the table ahead of the levels.
    (tables_file.levels_by, {"coins": FIVE, "levels": FIVE_LEVELS, "table": OWED_TABLE}, {
        "coins": errors_file.NoCoins, "table": errors_file.NoTable, "levels": errors_file.NoLevels}),
    (tables_file.joined, {"coins": FIVE, "table": OWED_TABLE, "then": EVEN_TABLE}, {
        "coins": errors_file.NoCoins, "table": errors_file.NoTable, "then": errors_file.NoTable}),
    (tables_file.often, {"coins": FIVE, "table": OWED_TABLE, "times": 3}, {
        "coins": errors_file.NoCoins, "table": errors_file.NoTable, "times": errors_file.NoTimes}),
    (tables_file.are_alike, {"coins": FIVE, "day": FIVE_DAY, "other": [OWED, OWED]}, {
        "coins": errors_file.NoCoins, "day": errors_file.NoDay, "other": errors_file.NoDay}),
    (orders_file.order_for, {"coins": FIVE, "till": FIVE_TILL, "day": FIVE_DAY}, {
        "coins": errors_file.NoCoins, "till": errors_file.NoTill, "day": errors_file.NoDay}),
    (orders_file.may_change_places, {"coins": FIVE, "customer": OWED, "other": FIVE_EVEN}, {
        "coins": errors_file.NoCoins, "customer": errors_file.NoCustomer, "other": errors_file.NoCustomer}),
    (kinds_file.needs_for_any, {"coins": FIVE, "kinds": FIVE_KINDS, "times": 3}, {
        "coins": errors_file.NoCoins, "kinds": errors_file.NoKinds, "times": errors_file.NoTimes}),
    (kinds_file.are_harmless, {"coins": FIVE, "kinds": FIVE_KINDS}, {
        "coins": errors_file.NoCoins, "kinds": errors_file.NoKinds}),
    (texts_file.show_day, {"coins": FIVE, "till": FIVE_TILL, "day": FIVE_DAY}, {
        "coins": errors_file.NoCoins, "till": errors_file.NoTill, "day": errors_file.NoDay}),
    (texts_file.read_day, {"text": FIVE_TEXT}, {"text": errors_file.NoText}),
])

NEVERS = {
    errors_file.NoCoins: NEVER_COINS,
    errors_file.NoTill: NEVER_TILL,
    errors_file.NoLevels: NEVER_LEVELS,
    errors_file.NoCustomer: NEVER_CUSTOMER,
    errors_file.NoDay: NEVER_DAY,
    errors_file.NoNeeds: NEVER_NEEDS,
    errors_file.NoTable: NEVER_TABLE,
    errors_file.NoTimes: NEVER_TIMES,
    errors_file.NoKinds: NEVER_KINDS,
    errors_file.NoText: NEVER_TEXT,
}


def nevers_of(name, error):
    """List what is refused with this error where it is handed in by this name."""
    return NEVER_LEVEL if name == "level" else NEVERS[error]


def arguments_of(given):
    """Give a deep copy of the sample arguments."""
    return copy.deepcopy(given)


def refusal(action, *args, **named):
    """Give the refusal that the call raises, or None where it raises none."""
    try:
        action(*args, **named)
    except errors_file.TillError as refused:
        return refused
    return None


def worth(coins, counts):
    return sum(coin * many for coin, many in zip(coins, counts))


def plain_levels(coins, till):
    return [worth(coins[:k + 1], till[:k + 1]) for k in range(len(coins))]


def plain_ways(coins, till, customer):
    """List all ways of giving by trying every list of numbers of coins."""
    price, paid = customer
    change = worth(coins, paid) - price
    held = [a + b for a, b in zip(till, paid)]
    tried = product(*[range(many + 1) for many in held])
    return sorted(list(given) for given in tried if worth(coins, given) == change)


def plain_behind(till, customer, given):
    return [a + b - c for a, b, c in zip(till, customer[1], given)]


def plain_served(coins, till, day):
    """Tell the most customers that can be served, whatever is given to each one."""
    if not day:
        return 0
    most = 0
    for given in plain_ways(coins, till, day[0]):
        most = max(most, 1 + plain_served(coins, plain_behind(till, day[0], given), day[1:]))
        if most == len(day):
            break
    return most


def customers_up_to(coins, most):
    """List all customers that pay up to so many of each coin."""
    out = []
    for paid in product(range(most + 1), repeat=len(coins)):
        for price in range(worth(coins, paid) + 1):
            out.append((price, list(paid)))
    return out


def tills_up_to(coins, most):
    return [list(till) for till in product(range(most + 1), repeat=len(coins))]


def falling_ways(coins, longest):
    """List all ways of up to so many numbers of levels."""
    falling = range(len(coins) - 1, -1, -1)
    out = []
    for long in range(1, longest + 1):
        out.extend(list(way) for way in combinations_with_replacement(falling, long))
    return out


def lists_within(thing):
    """List the lists in what is told, itself among them, by what they are and not by their worth."""
    if isinstance(thing, (list, tuple)):
        inner = [one for part in thing for one in lists_within(part)]
        return [thing] + inner if isinstance(thing, list) else inner
    return []


def sum_along(coins, day, way):
    """Add up what each customer adds at the way's level for him."""
    return sum(customers_file.adds(coins, customer)[k] for customer, k in zip(day, way))


def small_days(many):
    """Make so many pairs of a till and a day, the same ones each time."""
    chance = Random(11)
    out = []
    for coins, paid in (([1, 2], 2), ([1, 3], 2), ([1, 2, 4], 1), ([1, 2, 6], 1), ([1, 3, 6], 1)):
        customers = customers_up_to(coins, paid)
        tills = tills_up_to(coins, 2)
        for _ in range(many):
            day = [chance.choice(customers) for _ in range(chance.randrange(5))]
            out.append((coins, chance.choice(tills), day))
    return out


def long_days(many):
    """Make so many pairs of a till and a longer day of small prices, the same ones each time."""
    chance = Random(12)
    out = []
    for coins in ([1, 2, 4], [1, 3, 6, 12], [1, 2, 4, 8, 16]):
        for _ in range(many):
            day = []
            while len(day) < 7:
                paid = [chance.randrange(3) for _ in coins]
                price = chance.randrange(4)
                if worth(coins, paid) >= price:
                    day.append((price, paid))
            out.append((coins, [chance.randrange(3) for _ in coins], day))
    return out


def plain_needs(coins, day):
    """List the needs of a day by going through all its ways."""
    rows = [customers_file.adds(coins, customer) for customer in day]
    out = [0] * len(coins)
    for way in falling_ways(coins, len(day)):
        lack = -sum(row[k] for row, k in zip(rows, way))
        for k in range(way[0], len(coins)):
            out[k] = max(out[k], lack)
    return out


def is_falling_way(coins, way, longest):
    """Tell whether it is a list of one to so many numbers of levels that never rise."""
    if type(way) is not list or not 1 <= len(way) <= longest:
        return False
    if any(type(k) is not int or k not in range(len(coins)) for k in way):
        return False
    return way == sorted(way, reverse=True)


def poor_till(coins, level, worth_up_to):
    """Make a till that has just this worth up to the level, and very much above it."""
    return [worth_up_to] + [0] * level + [10 ** 9] * (len(coins) - level - 1)
