"""What several tests use: the interface with sample arguments, things of all sorts, and brute force."""

import copy
from itertools import product

from tillpress import coins as coins_file
from tillpress import customers as customers_file
from tillpress import days as days_file
from tillpress import errors as errors_file

FIVE = [1, 5, 10, 50, 100]
OWED = (37, [2, 1, 0, 2, 0])
FIVE_TILL = [3, 1, 4, 0, 2]
FIVE_DAY = [OWED, (100, [0, 0, 0, 0, 1]), OWED]


class Odd:
    """An object of no kind that the program knows."""


# None of these is coins, a till, levels, a customer, a day or a way of FIVE.
NEVER = [
    None, True, False, -1, 0, 1, 7, 10 ** 30, "", "1", "[1, 5]", "coins", b"", b"\x01\x05",
    (), (1, 5), (1, 5, 10, 50, 100), (3, 1, 4, 0, 2), ([1, 5, 10, 50, 100],), (0, 0),
    {}, {1: 5}, {"price": 3}, {1, 5}, frozenset(), range(5), Odd, Odd(), len, 1.5, -0.5,
    [None], [True], [True, 5, 10, 50, 100], ["1"], [[]], [[1]], [[1, 5, 10, 50, 100]], [()], [(1,)],
    [-1], [-1, 0, 0, 0, 0], [0, 0, 0, 0, -1], [0, 0, 0, 0, None], [0, 0, 0, False, 0],
    ["0", "0", "0", "0", "0"], [[0], [0], [0], [0], [0]], [(0, 0, 0, 0, 0)], [1.0, 5.0],
    [1, [5, [10, [50, (100, [])]]]], (1, (5, [10, ((50,), 100)])), [0] * 6, [0] * 500,
]
NEVER_COINS = NEVER + [[], [1], [0], [2], [0, 0, 0, 0, 0]]
NEVER_TILL = NEVER + [[], [0], [1, 5], [0] * 4]
NEVER_CUSTOMER = NEVER + [
    [], [0], [0] * 5, [0, [0] * 5], (0,), (0, [0] * 5, 0), (0, (0,) * 5), (0, [0] * 4), (0, [0] * 6),
    (True, [1, 0, 0, 0, 0]), (False, [0] * 5), (None, [0] * 5), ("0", [0] * 5), (0, None), (0, "00000"),
    (0, [True, 0, 0, 0, 0]), (0, [0, 0, 0, 0, None]), (0, [[0] * 5]), (-1, [0] * 5), (0, [-1, 1, 0, 0, 0]),
    ([0], [0] * 5), ((0, [0] * 5),), ([0] * 5, 0), (0, {}), (0, {0: 0, 1: 0, 2: 0, 3: 0, 4: 0}),
]
NEVER_DAY = NEVER + [
    (OWED,), OWED, [list(OWED)], [OWED, None], [[OWED]], [(OWED,)], [OWED, (1, [0] * 5)], [0] * 5, {0: OWED},
    [OWED] * 41, [OWED, OWED, True],
]

# Each function of the interface, with arguments by their names, and what each one is refused with.
FUNCTIONS = [
    (coins_file.are_coins, {"thing": FIVE}, {}),
    (coins_file.is_till, {"coins": FIVE, "thing": FIVE_TILL}, {"coins": errors_file.NoCoins}),
    (coins_file.levels_of, {"coins": FIVE, "till": FIVE_TILL}, {
        "coins": errors_file.NoCoins, "till": errors_file.NoTill}),
    (coins_file.till_of, {"coins": FIVE, "levels": [3, 8, 48, 48, 248]}, {
        "coins": errors_file.NoCoins, "levels": errors_file.NoLevels}),
    (customers_file.is_customer, {"coins": FIVE, "thing": OWED}, {"coins": errors_file.NoCoins}),
    (customers_file.change_of, {"coins": FIVE, "customer": OWED}, {
        "coins": errors_file.NoCoins, "customer": errors_file.NoCustomer}),
    (customers_file.adds, {"coins": FIVE, "customer": OWED}, {
        "coins": errors_file.NoCoins, "customer": errors_file.NoCustomer}),
]
for one in (customers_file.can_serve, customers_file.given_out, customers_file.behind, customers_file.all_ways):
    FUNCTIONS.append((one, {"coins": FIVE, "till": FIVE_TILL, "customer": OWED}, {
        "coins": errors_file.NoCoins, "till": errors_file.NoTill, "customer": errors_file.NoCustomer}))
for one in (days_file.served, days_file.till_behind, days_file.way_of_break):
    FUNCTIONS.append((one, {"coins": FIVE, "till": FIVE_TILL, "day": FIVE_DAY}, {
        "coins": errors_file.NoCoins, "till": errors_file.NoTill, "day": errors_file.NoDay}))
FUNCTIONS.append((
    days_file.breaks_by, {"coins": FIVE, "till": FIVE_TILL, "day": FIVE_DAY, "way": [2, 2]}, {
        "coins": errors_file.NoCoins, "till": errors_file.NoTill, "day": errors_file.NoDay}))

NEVERS = {
    errors_file.NoCoins: NEVER_COINS,
    errors_file.NoTill: NEVER_TILL,
    errors_file.NoLevels: NEVER_TILL + [[1, 2, 3, 4, 5]],
    errors_file.NoCustomer: NEVER_CUSTOMER,
    errors_file.NoDay: NEVER_DAY,
}


def arguments_of(given):
    """Give a deep copy of the sample arguments."""
    return copy.deepcopy(given)


def refusal(action, *args, **named):
    """Give the refusal that the call raises, or None where it raises none."""
    try:
        action(*args, **named)
    except errors_file.TillError as refused:
        return refused
    return None


def worth(coins, counts):
    return sum(coin * many for coin, many in zip(coins, counts))


def plain_levels(coins, till):
    return [worth(coins[:k + 1], till[:k + 1]) for k in range(len(coins))]


def plain_ways(coins, till, customer):
    """List all ways of giving by trying every list of numbers of coins."""
    price, paid = customer
    change = worth(coins, paid) - price
    held = [a + b for a, b in zip(till, paid)]
    tried = product(*[range(many + 1) for many in held])
    return sorted(list(given) for given in tried if worth(coins, given) == change)


def plain_behind(till, customer, given):
    return [a + b - c for a, b, c in zip(till, customer[1], given)]


def plain_served(coins, till, day):
    """Tell the most customers that can be served, whatever is given to each one."""
    if not day:
        return 0
    most = 0
    for given in plain_ways(coins, till, day[0]):
        most = max(most, 1 + plain_served(coins, plain_behind(till, day[0], given), day[1:]))
        if most == len(day):
            break
    return most


def customers_up_to(coins, most):
    """List all customers that pay up to so many of each coin."""
    out = []
    for paid in product(range(most + 1), repeat=len(coins)):
        for price in range(worth(coins, paid) + 1):
            out.append((price, list(paid)))
    return out


def tills_up_to(coins, most):
    return [list(till) for till in product(range(most + 1), repeat=len(coins))]


def falling_ways(coins, longest):
    """List all ways of up to so many numbers of levels."""
    out = []
    for long in range(1, longest + 1):
        for way in product(range(len(coins)), repeat=long):
            if all(way[k] <= way[k - 1] for k in range(1, long)):
                out.append(list(way))
    return out


def lists_within(thing):
    """List the lists in what is told, itself among them, by what they are and not by their worth."""
    if isinstance(thing, (list, tuple)):
        inner = [one for part in thing for one in lists_within(part)]
        return [thing] + inner if isinstance(thing, list) else inner
    return []
