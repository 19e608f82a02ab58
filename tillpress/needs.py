"""What a day needs of a till, and the tills that meet needs."""

from tillpress.coins import are_for_each, check_coins, check_till, levels_of
from tillpress.customers import adds
from tillpress.days import check_day
from tillpress.errors import NoLevels, NoNeeds
from tillpress.whole import is_whole


def needs(coins, day):
    """List what each level must be at least for the whole day to be served."""
    return _needs_ahead(coins, day)[0]


def _needs_ahead(coins, day):
    """List the needs ahead of each customer of the day, then those behind the last one."""
    check_day(coins, day)
    found = [[0] * len(coins)]
    for customer in reversed(day):
        found.append(_with_row(adds(coins, customer), found[-1]))
    found.reverse()
    return found


def _with_row(row, later):
    """List the needs ahead of a customer who adds this row, where behind him these are needed."""
    needed = []
    most = 0
    for e, need in zip(row, later):
        most = max(most, need - e)
        needed.append(most)
    return needed


def way_for(coins, day, level):
    """Give a way with which the need at the level lacks, or None where that need is 0."""
    check_day(coins, day)
    _check_level(coins, level)
    found = _needs_ahead(coins, day)
    way = []
    at = level
    for place, customer in enumerate(day):
        need = found[place][at]
        # Where nothing more is needed, a longer way would lack no more.
        if need == 0:
            break
        at = _level_of_need(adds(coins, customer), found[place + 1], need)
        way.append(at)
    if not way:
        return None
    return way


def _level_of_need(row, later, need):
    """Tell the least level of this customer at which the need comes about."""
    return [wanted - e for e, wanted in zip(row, later)].index(need)


def _check_level(coins, thing):
    """Refuse what is no level's number."""
    if not is_whole(thing) or not 0 <= thing < len(coins):
        raise NoLevels("a level's number is a whole number from 0 on, below the number of coins")


def are_needs(coins, thing):
    """Tell whether it is needs of these coins."""
    check_coins(coins)
    if not are_for_each(coins, thing):
        return False
    for k in range(1, len(thing)):
        if thing[k] < thing[k - 1]:
            return False
    return True


def check_needs(coins, thing):
    """Refuse what is no coins, then what is no needs of them."""
    if not are_needs(coins, thing):
        raise NoNeeds("needs are a list with a whole number from 0 on for each coin, never falling")


def lacking_at(levels, needed):
    """Tell the least number of a level that is below its need, or None."""
    for k in range(len(levels)):
        if levels[k] < needed[k]:
            return k
    return None


def meets(coins, till, needed):
    """Tell whether each level of the till is at least its need."""
    check_till(coins, till)
    check_needs(coins, needed)
    return lacking_at(levels_of(coins, till), needed) is None


def least_float(coins, needed):
    """Give the till that meets the needs, of least worth, and of those of the fewest coins."""
    check_needs(coins, needed)
    till = [0] * len(coins)
    level = needed[-1]
    for k in reversed(range(1, len(coins))):
        # As many of the greater coin as leave what the level below needs: each spares smaller ones.
        till[k] = (level - needed[k - 1]) // coins[k]
        level = level - till[k] * coins[k]
    till[0] = level
    return till
