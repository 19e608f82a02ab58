"""One customer: what he is owed, and what serving him does to a till."""

from tillpress.coins import are_for_each, check_coins, check_till, levels_of
from tillpress.errors import NoChange, NoCustomer, TooMany
from tillpress.whole import is_whole

GREATEST_PRICE = 10 ** 9
MOST_PAID = 10 ** 6
MOST_WAYS = 200


def is_customer(coins, thing):
    """Tell whether it is a customer of these coins."""
    check_coins(coins)
    if not isinstance(thing, tuple) or len(thing) != 2:
        return False
    price, paid = thing
    if not is_whole(price) or not 0 <= price <= GREATEST_PRICE:
        return False
    return _are_paid(coins, paid) and worth_of(coins, paid) >= price


def _are_paid(coins, thing):
    """Tell whether it says of each coin how many a customer pays."""
    return are_for_each(coins, thing) and max(thing) <= MOST_PAID


def check_customer(coins, thing):
    """Refuse what is no coins, then what is no customer of them."""
    if not is_customer(coins, thing):
        raise NoCustomer("a customer is a price and how many of each coin he pays, enough for it")


def worth_of(coins, counts):
    """Add up what so many of each coin are worth."""
    return sum([coin * many for coin, many in zip(coins, counts)])


def change_of(coins, customer):
    """Tell what a customer pays beyond the price."""
    check_customer(coins, customer)
    price, paid = customer
    return worth_of(coins, paid) - price


def adds(coins, customer):
    """List what a customer adds to each level, ahead of pressing the levels down."""
    change = change_of(coins, customer)
    price, paid = customer
    row = []
    worth = 0
    for k in range(len(coins) - 1):
        worth = worth + coins[k] * paid[k]
        # Just this rest can't be given in the coins above, however many of them there are.
        row.append(worth - change % coins[k + 1])
    row.append(price)
    return row


def lacking_level(coins, till, customer):
    """Tell the least number of a level that the customer brings below 0, or None."""
    check_till(coins, till)
    row = adds(coins, customer)
    for k, level in enumerate(levels_of(coins, till)):
        if level + row[k] < 0:
            return k
    return None


def can_serve(coins, till, customer):
    """Tell whether the till can give the customer his change."""
    return lacking_level(coins, till, customer) is None


def check_change(coins, till, customer):
    """Refuse a customer whom the till can't serve."""
    level = lacking_level(coins, till, customer)
    if level is not None:
        raise NoChange(level)


def _held(till, customer):
    """List how many of each coin lie in the till once the customer has paid."""
    return [many + more for many, more in zip(till, customer[1])]


def given_out(coins, till, customer):
    """List how many of each coin are given, the greatest first."""
    check_change(coins, till, customer)
    held = _held(till, customer)
    left = change_of(coins, customer)
    given = [0] * len(coins)
    for k in reversed(range(len(coins))):
        given[k] = min(held[k], left // coins[k])
        left = left - given[k] * coins[k]
    return given


def behind(coins, till, customer):
    """Give the till behind the customer, who was given the greatest coins first."""
    given = given_out(coins, till, customer)
    return [many - out for many, out in zip(_held(till, customer), given)]


def all_ways(coins, till, customer):
    """List all ways of giving the customer his change."""
    check_change(coins, till, customer)
    held = _held(till, customer)
    levels = levels_of(coins, held)
    begun = [([], change_of(coins, customer))]
    for k in reversed(range(len(coins))):
        below = levels[k] - coins[k] * held[k]
        begun = _with_coin(begun, coins[k], held[k], below)
    return sorted([way for way, left in begun])


def _with_coin(begun, coin, many, below):
    """Put each number of this coin that can be given ahead of each way begun by the greater coins.

    A way begun has what is still left to be given. The greatest first comes out even, so the rest
    that the smaller coins must give in any case is there; hence every number of this coin can be
    given that leaves no more than the smaller coins are worth, which is `below`. So each way begun
    ends as one way at least, and too many begun are too many.
    """
    ways = []
    for way, left in begun:
        most = min(many, left // coin)
        # Rounded up: what is beyond the worth of the smaller coins must be given in this one.
        least = max(0, -((below - left) // coin))
        if len(ways) + most - least + 1 > MOST_WAYS:
            raise TooMany("there are more than two hundred ways of giving")
        for given in range(least, most + 1):
            ways.append(([given] + way, left - given * coin))
    return ways
