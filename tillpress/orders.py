"""Customers in whatever order they come."""

from tillpress.coins import check_till, levels_of
from tillpress.customers import adds, check_customer
from tillpress.days import check_day
from tillpress.errors import TooMany
from tillpress.needs import needs
from tillpress.tables import are_alike

MOST_ORDERED = 7


def needs_in_any_order(coins, day):
    """List what each level must be at least for the customers to be served whole in every order."""
    check_day(coins, day)
    needed = [0] * len(coins)
    for customer in day:
        # In the worst order all that each one lacks alone adds up: from the highest such level down.
        alone = needs(coins, [customer])
        needed = [many + more for many, more in zip(needed, alone)]
    return needed


def order_for(coins, till, day):
    """List the places of the customers in the first order in which they are served whole, or None."""
    check_till(coins, till)
    check_day(coins, day)
    if len(day) > MOST_ORDERED:
        raise TooMany("an order is told of at most seven customers")
    rows = [adds(coins, customer) for customer in day]
    return _first_order(rows, levels_of(coins, till), [])


def _first_order(rows, levels, begun):
    """Find the first order that begins so, with these levels behind those begun, or None."""
    if len(begun) == len(rows):
        return begun
    for place in range(len(rows)):
        if place in begun:
            continue
        pressed = _pressed(levels, rows[place])
        # Pressed down, the lowest level is the least of all.
        if pressed[0] < 0:
            continue
        found = _first_order(rows, pressed, begun + [place])
        if found is not None:
            return found
    return None


def _pressed(levels, row):
    """List the levels with what a customer adds, each pressed down to the least from it on."""
    added = [level + e for level, e in zip(levels, row)]
    return [min(added[k:]) for k in range(len(added))]


def may_change_places(coins, customer, other):
    """Tell whether two customers, one behind the other, may change places."""
    check_customer(coins, customer)
    check_customer(coins, other)
    return are_alike(coins, [customer, other], [other, customer])
