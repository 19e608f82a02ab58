"""What Tillpress refuses: one error class for each kind of refusal."""


class TillError(ValueError):
    """Any refusal."""


class NoCoins(TillError):
    """What was handed in as coins is none."""


class NoTill(TillError):
    """What was handed in as a till is none of these coins."""


class NoLevels(TillError):
    """What was handed in as levels is those of no till."""


class NoCustomer(TillError):
    """What was handed in as a customer is none of these coins."""


class TooMany(TillError):
    """There are more of something than are told."""


class NoDay(TillError):
    """What was handed in as a day is none of these coins."""


class NoNeeds(TillError):
    """What was handed in as needs is none of these coins."""


class NoTable(TillError):
    """What was handed in as a table is none of these coins."""


class NoTimes(TillError):
    """What was handed in as how many times is no such number."""


class NoKinds(TillError):
    """What was handed in as kinds is none of these coins."""


class NoSwap(TillError):
    """What was handed in to be swapped can't be."""


class NoRow(TillError):
    """What was said to a desk is no row."""


class NoName(TillError):
    """No day stands by the name."""


class NoChange(TillError):
    """A customer can't be served; `level` is the least number of a level that lacks."""

    def __init__(self, level=None):
        self.level = level


class NoText(TillError):
    """What was handed in as a writing is none; `at` is the number of the row, or None."""

    def __init__(self, at=None):
        self.at = at
