"""The desk: days by their names, and what it answers to rows."""

from tillpress.coins import levels_of
from tillpress.customers import check_customer
from tillpress.days import check_day, served, till_behind
from tillpress.errors import NoChange, NoName, NoRow
from tillpress.needs import least_float, needs
from tillpress.orders import needs_in_any_order
from tillpress.tables import levels_by, often, table_of
from tillpress.texts import are_numbers, is_made_of, numbers_of, read_day, show_day, with_blanks

LETTERS = "abcdefghijklmnopqrstuvwxyz"
LONGEST_NAME = 8
MOST_PAID_WITH = 5


def _show(coins, till, day):
    """Write the day, each line feed as a semicolon."""
    return show_day(coins, till, day).replace("\n", ";")


def _served(coins, till, day):
    """Write how many are served."""
    return str(served(coins, till, day))


def _levels(coins, till, day):
    """Write the levels behind those who are served."""
    return with_blanks(levels_of(coins, till_behind(coins, till, day)))


def _needs(coins, till, day):
    """Write what the day needs."""
    return with_blanks(needs(coins, day))


def _needs_in_any_order(coins, till, day):
    """Write what the day's customers need in whatever order."""
    return with_blanks(needs_in_any_order(coins, day))


def _float(coins, till, day):
    """Write the least float for what the day needs."""
    return with_blanks(least_float(coins, needs(coins, day)))


# What is asked by a row of one word and a name.
ANSWERS = {
    "show": _show,
    "served": _served,
    "levels": _levels,
    "needs": _needs,
    "any": _needs_in_any_order,
    "float": _float,
}


def _over(coins, till, day, times):
    """Write the levels behind the day so many times over, or that it breaks."""
    table = often(coins, table_of(coins, day), times)
    try:
        levels = levels_by(coins, levels_of(coins, till), table)
    except NoChange:
        return "breaks"
    return with_blanks(levels)


def _words_of(row):
    """List the words of a row, the TEXT of a day as one of them; refuse what is no row."""
    if not isinstance(row, str) or "\n" in row or "\t" in row:
        raise NoRow("a row is a text without a line feed or a tab")
    words = row.split(" ")
    if words[0] == "day":
        words = row.split(" ", 2)
    if len(words) < 2 or not _is_name(words[1]) or not _may_follow(words[0], words[2:]):
        raise NoRow("no row is written so")
    return words


def _is_name(word):
    """Tell whether it is one to eight small letters."""
    return is_made_of(word, LETTERS, LONGEST_NAME)


def _may_follow(word, more):
    """Tell whether this word begins a row with such words behind its name."""
    if word == "day":
        return len(more) == 1
    if word == "come":
        return 2 <= len(more) <= 1 + MOST_PAID_WITH and are_numbers(more)
    if word == "over":
        return len(more) == 1 and are_numbers(more)
    return not more and (word == "drop" or word in ANSWERS)


class Desk:
    """Days with their coins and tills, each by its name."""

    def __init__(self):
        self._days = {}

    def names(self):
        """List the names by which a day stands, rising."""
        return sorted(self._days)

    def say(self, row):
        """Do what a row says, and answer it."""
        words = _words_of(row)
        word, name = words[0], words[1]
        if word == "day":
            self._days[name] = read_day(words[2].replace(";", "\n"))
            return "ok"
        if name not in self._days:
            raise NoName("no day stands by this name")
        if word == "drop":
            del self._days[name]
            return "ok"
        if word == "come":
            self._come(name, numbers_of(words[2:]))
            return "ok"
        coins, till, day = self._days[name]
        if word == "over":
            return _over(coins, till, day, int(words[2]))
        answer = ANSWERS[word]
        return answer(coins, till, day)

    def _come(self, name, numbers):
        """Let one customer more come at the end of a day."""
        coins, till, day = self._days[name]
        customer = (numbers[0], numbers[1:])
        check_customer(coins, customer)
        longer = day + [customer]
        check_day(coins, longer)
        self._days[name] = (coins, till, longer)
