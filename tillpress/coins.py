"""Coins, tills of them, and the levels of a till."""

from tillpress.errors import NoCoins, NoLevels, NoTill
from tillpress.whole import are_counts

FEWEST_COINS = 2
MOST_COINS = 5
GREATEST_COIN = 100000


def are_coins(thing):
    """Tell whether it is coins."""
    if not are_counts(thing) or not FEWEST_COINS <= len(thing) <= MOST_COINS:
        return False
    # The first coin is looked at ahead of the others, as none may be divided by 0.
    if thing[0] != 1 or thing[-1] > GREATEST_COIN:
        return False
    for k in range(1, len(thing)):
        if thing[k] <= thing[k - 1] or thing[k] % thing[k - 1] != 0:
            return False
    return True


def check_coins(thing):
    """Refuse what is no coins."""
    if not are_coins(thing):
        raise NoCoins("coins are two to five numbers from 1 on, each one going into the next")


def are_for_each(coins, thing):
    """Tell whether it is a list with a whole number from 0 on for each coin."""
    return are_counts(thing) and len(thing) == len(coins)


def is_till(coins, thing):
    """Tell whether it is a till of these coins."""
    check_coins(coins)
    return are_for_each(coins, thing)


def check_till(coins, thing):
    """Refuse what is no coins, then what is no till of them."""
    if not is_till(coins, thing):
        raise NoTill("a till is a list with a whole number from 0 on for each coin")


def levels_of(coins, till):
    """List what all coins up to each one are worth together."""
    check_till(coins, till)
    levels = []
    worth = 0
    for coin, many in zip(coins, till):
        worth = worth + coin * many
        levels.append(worth)
    return levels


def are_levels(coins, thing):
    """Tell whether some till of these coins has these levels."""
    check_coins(coins)
    if not are_for_each(coins, thing):
        return False
    below = 0
    for coin, level in zip(coins, thing):
        if level < below or (level - below) % coin != 0:
            return False
        below = level
    return True


def check_levels(coins, thing):
    """Refuse what is no coins, then what is the levels of no till of them."""
    if not are_levels(coins, thing):
        raise NoLevels("levels never fall, and each one is some of its coin above the one ahead")


def till_of(coins, levels):
    """Give the till that has these levels."""
    check_levels(coins, levels)
    till = []
    below = 0
    for coin, level in zip(coins, levels):
        till.append((level - below) // coin)
        below = level
    return till
