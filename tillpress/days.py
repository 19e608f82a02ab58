"""Days: customers one behind the other, and the ways by which a day breaks."""

from tillpress.coins import check_coins, check_till, levels_of
from tillpress.customers import adds, behind, can_serve, is_customer
from tillpress.errors import NoDay
from tillpress.whole import are_counts

MOST_CUSTOMERS = 40


def is_day(coins, thing):
    """Tell whether it is a day of customers of these coins."""
    check_coins(coins)
    if not isinstance(thing, list) or len(thing) > MOST_CUSTOMERS:
        return False
    for customer in thing:
        if not is_customer(coins, customer):
            return False
    return True


def check_day(coins, thing):
    """Refuse what is no coins, then what is no day of their customers."""
    if not is_day(coins, thing):
        raise NoDay("a day is a list of at most forty customers of these coins")


def _tills_of(coins, till, day):
    """List the till ahead of the day, then the one behind each customer that is served."""
    check_till(coins, till)
    check_day(coins, day)
    tills = [list(till)]
    for customer in day:
        if not can_serve(coins, tills[-1], customer):
            return tills
        tills.append(behind(coins, tills[-1], customer))
    return tills


def served(coins, till, day):
    """Tell how many customers of the day are served, till the first that can't be."""
    return len(_tills_of(coins, till, day)) - 1


def till_behind(coins, till, day):
    """Give the till behind those customers of the day that are served."""
    return _tills_of(coins, till, day)[-1]


def way_of_break(coins, till, day):
    """Give a way by which the day breaks, or None where it is served whole."""
    check_till(coins, till)
    check_day(coins, day)
    levels = levels_of(coins, till)
    ways = [[] for coin in coins]
    for customer in day:
        row = adds(coins, customer)
        for k in range(len(coins)):
            levels[k] = levels[k] + row[k]
            ways[k] = ways[k] + [k]
            if levels[k] < 0:
                return ways[k]
        _press_down(levels, ways)
    return None


def _press_down(levels, ways):
    """Let each level be the least from it on, and let its way be the one that leads to that."""
    for k in reversed(range(len(levels) - 1)):
        if levels[k + 1] < levels[k]:
            levels[k] = levels[k + 1]
            ways[k] = ways[k + 1]


def breaks_by(coins, till, day, way):
    """Tell whether the day breaks by this way, of anything as the way."""
    check_till(coins, till)
    check_day(coins, day)
    if not _is_way(coins, day, way):
        return False
    level = levels_of(coins, till)[way[0]]
    return level + _sum_along(coins, day, way) < 0


def _is_way(coins, day, thing):
    """Tell whether it is a way through some of the first customers of the day."""
    if not are_counts(thing) or not 1 <= len(thing) <= len(day):
        return False
    if thing[0] >= len(coins):
        return False
    for k in range(1, len(thing)):
        if thing[k] > thing[k - 1]:
            return False
    return True


def _sum_along(coins, day, way):
    """Add up what each customer adds at the way's level for him."""
    return sum([adds(coins, customer)[k] for customer, k in zip(day, way)])
