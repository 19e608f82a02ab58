"""Texts: a day with its coins and till, written in rows, and read back."""

from tillpress.coins import are_coins, check_till, is_till
from tillpress.days import check_day, is_day
from tillpress.errors import NoText

FIGURES = "0123456789"
MOST_FIGURES = 30
# The first word of the first row, of the second, and of all others.
FIRST_WORDS = ("coins", "till", "pays")


def are_numbers(words):
    """Tell whether each of the words writes a number."""
    for word in words:
        if not _is_number(word):
            return False
    return True


def _is_number(word):
    """Tell whether it is one to thirty figures, with no 0 ahead of another one."""
    return is_made_of(word, FIGURES, MOST_FIGURES) and (word == "0" or word[0] != "0")


def is_made_of(word, signs, most):
    """Tell whether it is one to so many signs, all of them among these."""
    if not 1 <= len(word) <= most:
        return False
    for sign in word:
        if sign not in signs:
            return False
    return True


def numbers_of(words):
    """List the numbers that the words write."""
    return [int(word) for word in words]


def with_blanks(numbers):
    """Write numbers with a blank between each two."""
    return " ".join([str(number) for number in numbers])


def show_day(coins, till, day):
    """Write a day with its coins and till."""
    check_till(coins, till)
    check_day(coins, day)
    rows = [f"coins {with_blanks(coins)}", f"till {with_blanks(till)}"]
    for price, paid in day:
        rows.append(f"pays {price} {with_blanks(paid)}")
    return "\n".join(rows)


def read_day(text):
    """Read the coins, the till and the day that a text writes."""
    if not isinstance(text, str):
        raise NoText(None)
    rows = [row.split(" ") for row in text.split("\n")]
    for at, words in enumerate(rows):
        if not _has_form(at, words):
            raise NoText(at)
    numbers = [numbers_of(words[1:]) for words in rows]
    if not _tell_a_day(numbers):
        raise NoText(len(rows))
    return (numbers[0], numbers[1], _day_of(numbers))


def _has_form(at, words):
    """Tell whether these are the words of such a row as has its place there, whatever its numbers are."""
    place = min(at, len(FIRST_WORDS) - 1)
    if words[0] != FIRST_WORDS[place] or not are_numbers(words[1:]):
        return False
    # A customer's row has his price at least.
    return words[0] != "pays" or len(words) > 1


def _tell_a_day(numbers):
    """Tell whether rows of numbers are coins, a till of them, and a day."""
    if len(numbers) < 2 or not are_coins(numbers[0]):
        return False
    return is_till(numbers[0], numbers[1]) and is_day(numbers[0], _day_of(numbers))


def _day_of(numbers):
    """List the customers behind the row of coins and that of the till."""
    return [(row[0], row[1:]) for row in numbers[2:]]
