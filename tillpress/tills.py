"""A till at work: what lies in it changes with each deed."""

from tillpress.coins import are_for_each, check_till, levels_of
from tillpress.customers import behind, given_out, worth_of
from tillpress.errors import NoSwap


class Till:
    """A till of coins, which serves customers, swaps coins, and keeps a log of its deeds."""

    def __init__(self, coins, till):
        check_till(coins, till)
        self._coins = list(coins)
        self._held = list(till)
        # What was given to each customer: there are as many as were served.
        self._given = []
        self._log = []

    def __len__(self):
        return len(self._given)

    def till(self):
        """List how many of each coin lie in it."""
        return list(self._held)

    def levels(self):
        """List what all coins in it up to each one are worth together."""
        return levels_of(self._coins, self._held)

    def log(self):
        """List what was begun and what ended, one behind the other."""
        return list(self._log)

    def serve(self, customer):
        """Give the customer his change, the greatest coins first, and list how many of each."""
        self._log.append("in serve")
        try:
            given = given_out(self._coins, self._held, customer)
            self._held = behind(self._coins, self._held, customer)
            self._given.append(list(given))
            return given
        finally:
            self._log.append("out serve")

    def swap(self, out, back):
        """Give coins out for coins back of the same worth."""
        self._log.append("in swap")
        try:
            self._check_swap(out, back)
            self._held = [many - less + more for many, less, more in zip(self._held, out, back)]
        finally:
            self._log.append("out swap")

    def put(self, coins_in):
        """Put more coins in."""
        self._log.append("in put")
        try:
            check_till(self._coins, coins_in)
            self._held = [many + more for many, more in zip(self._held, coins_in)]
        finally:
            self._log.append("out put")

    def _check_swap(self, out, back):
        """Refuse what are no lists of coins, of another worth, or more out than lie there."""
        if not are_for_each(self._coins, out) or not are_for_each(self._coins, back):
            raise NoSwap("what is swapped is two lists with a whole number from 0 on for each coin")
        if worth_of(self._coins, out) != worth_of(self._coins, back):
            raise NoSwap("what goes out and what comes back are worth the same")
        for many, less in zip(self._held, out):
            if less > many:
                raise NoSwap("no more of a coin goes out than lie there")
