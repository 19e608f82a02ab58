"""Whole numbers, and lists of them, told of anything."""


def is_whole(thing):
    """Tell whether it is a whole number: an int that is no truth."""
    return isinstance(thing, int) and not isinstance(thing, bool)


def are_counts(thing):
    """Tell whether it is a list of whole numbers from 0 on, however long."""
    if not isinstance(thing, list):
        return False
    for number in thing:
        if not is_whole(number) or number < 0:
            return False
    return True
