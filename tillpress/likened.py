"""Tills likened: whether one is as good as another for every row, and a row that parts them."""

from tillpress.coins import check_till, levels_of
from tillpress.needs import lacking_at


def is_as_good(coins, till, other):
    """Tell whether each level of the till is at least as high as that of the other one."""
    return _parting_level(coins, till, other) is None


def _parting_level(coins, till, other):
    """Tell the least number of a level at which the till is below the other one, or None."""
    return lacking_at(levels_of(coins, till), levels_of(coins, other))


def parting_row(coins, till, other):
    """Give a long row that the other till serves whole and this one does not, or None."""
    level = _parting_level(coins, till, other)
    if level is None:
        return None
    row = []
    if level > 0:
        # So many that each level below rises as far as the parting level lets it, in both tills.
        row.append((_changer(coins, level), levels_of(coins, other)[level] // coins[level] + 1))
    # One more than the parting level of the till lets it serve, and no more than that of the other.
    row.append((_owed_one(coins), levels_of(coins, till)[level] + 1))
    return row


def _changer(coins, level):
    """Give a customer who changes ones into a coin: he adds to the levels below it, and takes from none."""
    paid = [0] * len(coins)
    paid[0] = coins[level]
    return (0, paid)


def _owed_one(coins):
    """Give a customer who takes 1 from the lowest level, and adds to each other one."""
    paid = [0] * len(coins)
    paid[1] = 1
    return (coins[1] - 1, paid)


def put_in_one(coins, till, other):
    """Give the till that holds the coins of both."""
    check_till(coins, till)
    check_till(coins, other)
    return [many + more for many, more in zip(till, other)]
