"""Kinds of customers: what a till needs for any row of them, however long it is."""

from tillpress.customers import adds
from tillpress.days import is_day
from tillpress.errors import NoKinds
from tillpress.tables import often, table_of_row

MOST_KINDS = 8


def are_kinds(coins, thing):
    """Tell whether it is one to eight customers of these coins."""
    return is_day(coins, thing) and 1 <= len(thing) <= MOST_KINDS


def check_kinds(coins, thing):
    """Refuse what is no coins, then what is no kinds of their customers."""
    if not are_kinds(coins, thing):
        raise NoKinds("kinds are a list of one to eight customers of these coins")


def _least_row(coins, kinds):
    """List the least that any of the kinds adds to each level."""
    rows = [adds(coins, customer) for customer in kinds]
    return [min([row[k] for row in rows]) for k in range(len(coins))]


def needs_for_any(coins, kinds, times):
    """List what each level must be at least for every row of so many customers to be served whole."""
    check_kinds(coins, kinds)
    # A way takes each customer at one level only, and he may be of whichever kind adds least there:
    # so all rows together need what one customer needs who adds the least of all kinds everywhere.
    table = table_of_row(_least_row(coins, kinds))
    return often(coins, table, times)[1]


def are_harmless(coins, kinds):
    """Tell True where no row of these kinds needs anything, else the least level that some kind lowers."""
    check_kinds(coins, kinds)
    # The last level is never the one that is told: to it a customer adds his price.
    for k, least in enumerate(_least_row(coins, kinds)):
        if least < 0:
            return k
    return True
