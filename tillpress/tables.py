"""Tables: what a day does to the levels of every till, and days put together by them.

In `moves`, row k has for each level j from k on what is added to level j on the way down to level k.
"""

from tillpress.coins import check_coins, check_levels
from tillpress.customers import adds
from tillpress.days import check_day
from tillpress.errors import NoChange, NoTable, NoTimes
from tillpress.needs import are_needs, lacking_at
from tillpress.whole import is_whole

MOST_TIMES = 10 ** 15


def is_table(coins, thing):
    """Tell whether it is a table of these coins."""
    check_coins(coins)
    if not isinstance(thing, tuple) or len(thing) != 2:
        return False
    moves, needed = thing
    return _are_moves(len(coins), moves) and are_needs(coins, needed)


def _are_moves(many, thing):
    """Tell whether it is the moves of a table of so many levels."""
    if not isinstance(thing, list) or len(thing) != many:
        return False
    for k in range(many):
        if not _is_row(many, k, thing[k]):
            return False
    return _are_pressed(thing)


def _is_row(many, level, thing):
    """Tell whether it has None for each level below this one, and else whole numbers."""
    if not isinstance(thing, list) or len(thing) != many:
        return False
    for j in range(many):
        if j < level and thing[j] is not None:
            return False
        if j >= level and not is_whole(thing[j]):
            return False
    return True


def _are_pressed(moves):
    """Tell whether no number is greater than the one ahead in its row, nor than that in the next row."""
    for k in range(len(moves)):
        for j in range(k + 1, len(moves)):
            if moves[k][j] > moves[k][j - 1] or moves[k][j] > moves[k + 1][j]:
                return False
    return True


def check_table(coins, thing):
    """Refuse what is no coins, then what is no table of them."""
    if not is_table(coins, thing):
        raise NoTable("a table is a tuple of its moves and its needs, for each level of these coins")


def check_times(thing):
    """Refuse what is no number of times."""
    if not is_whole(thing) or not 0 <= thing <= MOST_TIMES:
        raise NoTimes("how many times is a whole number from 0 to 10 ** 15")


def table_of(coins, day):
    """Give the table of a day."""
    check_day(coins, day)
    table = _table_of_none(len(coins))
    for customer in day:
        table = _both(table, table_of_row(adds(coins, customer)))
    return table


def _table_of_none(many):
    """Give the table of the empty day, of so many levels."""
    moves = [[None] * k + [0] * (many - k) for k in range(many)]
    return (moves, [0] * many)


def table_of_row(row):
    """Give the table of a customer who adds this row."""
    many = len(row)
    moves = []
    needed = []
    for k in range(many):
        moves.append([None] * k + [min(row[k:j + 1]) for j in range(k, many)])
        needed.append(max(0, -min(row[:k + 1])))
    return (moves, needed)


def _both(table, then):
    """Put two tables together, `then` behind the other one."""
    moves, needed = table
    later, wanted = then
    many = len(needed)
    both = []
    for k in range(many):
        both.append([None] * k + [_least_move(moves, later, k, j) for j in range(k, many)])
    return (both, _needs_of_both(moves, needed, wanted))


def _least_move(moves, later, k, j):
    """Tell the least sum of both moves from level j down to level k, by any level between."""
    return min([moves[i][j] + later[k][i] for i in range(k, j + 1)])


def _needs_of_both(moves, needed, wanted):
    """List what is needed ahead of moves behind which other needs are to be met."""
    both = []
    most = 0
    for j in range(len(needed)):
        lacks = [wanted[i] - moves[i][j] for i in range(j + 1)]
        most = max(most, needed[j], max(lacks))
        both.append(most)
    return both


def levels_by(coins, levels, table):
    """List the levels behind, by a table."""
    check_table(coins, table)
    check_levels(coins, levels)
    moves, needed = table
    lacking = lacking_at(levels, needed)
    if lacking is not None:
        raise NoChange(lacking)
    many = len(levels)
    return [min([levels[j] + moves[k][j] for j in range(k, many)]) for k in range(many)]


def joined(coins, table, then):
    """Give the table of one table's day with that of `then` behind it."""
    check_table(coins, table)
    check_table(coins, then)
    return _both(table, then)


def often(coins, table, times):
    """Give the table of a table's day so many times over."""
    check_table(coins, table)
    check_times(times)
    # The table of none stands ahead of all others: there it changes none of them, but behind one
    # that is of no day it might ask for more.
    told = _table_of_none(len(coins))
    doubled = table
    left = times
    while left > 0:
        if left % 2 == 1:
            told = _both(told, doubled)
        doubled = _both(doubled, doubled)
        left = left // 2
    return told


def are_alike(coins, day, other):
    """Tell whether both days serve just the same tills, with the same levels behind."""
    return table_of(coins, day) == table_of(coins, other)
