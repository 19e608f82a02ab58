"""Points 2 and 5, of everything: names, refusals and their order, and that nothing is shared or changed."""

import doctest
import inspect
import os
import unittest

from tests.samples import FIVE, FIVE_DAY, FUNCTIONS, NEVERS, arguments_of, lists_within, nevers_of, refusal
from tillpress.customers import all_ways
from tillpress.days import breaks_by, till_behind, way_of_break
from tillpress.desk import Desk
from tillpress.errors import NoCoins
from tillpress.tills import Till
from tillpress.whole import are_counts, is_whole

INTERFACE = {
    "tillpress.coins": {
        "are_coins": ["thing"], "is_till": ["coins", "thing"], "levels_of": ["coins", "till"],
        "till_of": ["coins", "levels"],
    },
    "tillpress.customers": {
        "is_customer": ["coins", "thing"], "change_of": ["coins", "customer"], "adds": ["coins", "customer"],
        "can_serve": ["coins", "till", "customer"], "given_out": ["coins", "till", "customer"],
        "behind": ["coins", "till", "customer"], "all_ways": ["coins", "till", "customer"],
    },
    "tillpress.days": {
        "served": ["coins", "till", "day"], "till_behind": ["coins", "till", "day"],
        "way_of_break": ["coins", "till", "day"], "breaks_by": ["coins", "till", "day", "way"],
    },
    "tillpress.needs": {
        "needs": ["coins", "day"], "way_for": ["coins", "day", "level"], "meets": ["coins", "till", "needed"],
        "least_float": ["coins", "needed"],
    },
    "tillpress.tables": {
        "table_of": ["coins", "day"], "levels_by": ["coins", "levels", "table"], "joined": ["coins", "table", "then"],
        "often": ["coins", "table", "times"], "are_alike": ["coins", "day", "other"],
    },
    "tillpress.likened": {
        "is_as_good": ["coins", "till", "other"], "parting_row": ["coins", "till", "other"],
        "put_in_one": ["coins", "till", "other"],
    },
    "tillpress.orders": {
        "needs_in_any_order": ["coins", "day"], "order_for": ["coins", "till", "day"],
        "may_change_places": ["coins", "customer", "other"],
    },
    "tillpress.kinds": {"needs_for_any": ["coins", "kinds", "times"], "are_harmless": ["coins", "kinds"]},
    "tillpress.texts": {"show_day": ["coins", "till", "day"], "read_day": ["text"]},
}
METHODS = {
    Till: {
        "__init__": ["self", "coins", "till"], "serve": ["self", "customer"], "swap": ["self", "out", "back"],
        "put": ["self", "coins_in"], "till": ["self"], "levels": ["self"], "log": ["self"], "__len__": ["self"],
    },
    Desk: {"__init__": ["self"], "names": ["self"], "say": ["self", "row"]},
}


class TestInterface(unittest.TestCase):
    def test_each_function_is_defined_in_its_file_with_its_arguments(self):
        found = {}
        for action, given, refusals in FUNCTIONS:
            found.setdefault(action.__module__, {})[action.__name__] = list(inspect.signature(action).parameters)
        self.assertEqual(found, INTERFACE)

    def test_each_method_is_defined_in_its_class_with_its_arguments(self):
        self.assertEqual([Till.__module__, Desk.__module__], ["tillpress.tills", "tillpress.desk"])
        for one, methods in METHODS.items():
            for name, args in methods.items():
                self.assertEqual(list(inspect.signature(vars(one)[name]).parameters), args, (one, name))

    def test_arguments_by_place_and_by_name_in_any_order(self):
        for action, given, refusals in FUNCTIONS:
            told = action(*arguments_of(given).values())
            turned = dict(reversed(list(arguments_of(given).items())))
            self.assertEqual(action(**arguments_of(given)), told, action)
            self.assertEqual(action(**turned), told, action)

    def test_the_readme_tells_what_is_so(self):
        path = os.path.join(os.path.dirname(os.path.dirname(os.path.abspath(__file__))), "README.md")
        failed, tried = doctest.testfile(path, module_relative=False)
        self.assertEqual(failed, 0)
        self.assertGreater(tried, 0)


class TestNothingShared(unittest.TestCase):
    def test_what_is_handed_in_stays_as_it_was(self):
        for action, given, refusals in FUNCTIONS:
            args = arguments_of(given)
            action(**args)
            self.assertEqual(args, given, action)

    def test_what_is_handed_in_stays_as_it_was_where_it_is_refused(self):
        poor = {"coins": [1, 5], "till": [0, 0], "customer": (3, [0, 1]), "day": [(3, [0, 1])] * 41}
        for action, given, refusals in FUNCTIONS:
            args = {name: poor.get(name, given[name]) for name in given}
            before = arguments_of(args)
            refusal(action, **args)
            self.assertEqual(args, before, action)

    def test_every_list_told_is_a_new_one(self):
        for action, given, refusals in FUNCTIONS:
            args = arguments_of(given)
            first = action(**args)
            second = action(**args)
            self.assertEqual(first, second, action)
            lists = {id(one) for one in lists_within(first) + lists_within(second)}
            self.assertEqual(len(lists), len(lists_within(first)) + len(lists_within(second)), action)
            self.assertFalse(lists & {id(one) for one in lists_within(list(args.values()))}, action)

    def test_changing_what_was_told_changes_nothing_told_later(self):
        for action, given, refusals in FUNCTIONS:
            args = arguments_of(given)
            told = action(**args)
            kept = arguments_of(told)
            for one in lists_within(told):
                one.clear()
            self.assertEqual(args, given, action)
            self.assertEqual(action(**args), kept, action)

    def test_changing_what_was_handed_in_changes_nothing_told(self):
        for action, given, refusals in FUNCTIONS:
            args = arguments_of(given)
            told = action(**args)
            kept = arguments_of(told)
            for one in lists_within(list(args.values())):
                one.clear()
            self.assertEqual(told, kept, action)

    def test_the_till_behind_no_one_is_a_new_list(self):
        till = [1, 2]
        told = till_behind([1, 5], till, [])
        self.assertEqual(told, till)
        self.assertIsNot(told, till)

    def test_no_two_ways_are_one_list(self):
        told = all_ways([1, 5], [20, 3], (0, [0, 3]))
        self.assertEqual(len({id(way) for way in told}), 4)
        told[0].append(7)
        self.assertEqual([len(way) for way in told], [3, 2, 2, 2])

    def test_the_same_asked_again_is_answered_the_same(self):
        for action, given, refusals in FUNCTIONS:
            self.assertEqual(action(**arguments_of(given)), action(**arguments_of(given)))
        first = way_of_break(FIVE, [0] * 5, FIVE_DAY)
        self.assertEqual(first, way_of_break(FIVE, [0] * 5, FIVE_DAY))
        first.append(9)
        self.assertNotEqual(first, way_of_break(FIVE, [0] * 5, FIVE_DAY))


class TestRefusals(unittest.TestCase):
    def test_each_argument_is_refused_with_its_own_class(self):
        for action, given, refusals in FUNCTIONS:
            for name, error in refusals.items():
                for thing in nevers_of(name, error):
                    args = arguments_of(given)
                    args[name] = thing
                    self.assertIs(refusal(action, **args).__class__, error, (action, name, thing))

    def test_of_several_the_first_is_refused(self):
        for action, given, refusals in FUNCTIONS:
            names = list(refusals)
            for k, name in enumerate(names):
                for thing in (None, True, "", (), [()], {}, -1):
                    args = arguments_of(given)
                    for later in names[k:]:
                        args[later] = thing
                    turned = dict(reversed(list(args.items())))
                    self.assertIs(refusal(action, **args).__class__, refusals[name], (action, name, thing))
                    self.assertIs(refusal(action, **turned).__class__, refusals[name], (action, name, thing))

    def test_coins_are_refused_ahead_of_all_else(self):
        for action, given, refusals in FUNCTIONS:
            if "coins" in given:
                for coins in (None, [1], [2, 4], (1, 5), [1, 5, 12]):
                    args = {name: None for name in given}
                    args["coins"] = coins
                    self.assertIs(refusal(action, **args).__class__, NoCoins, (action, coins))

    def test_of_anything_the_truth_is_told(self):
        for action, given, refusals in FUNCTIONS:
            name = list(given)[-1]
            if name in refusals:
                continue
            for error in NEVERS:
                for thing in NEVERS[error]:
                    args = arguments_of(given)
                    args[name] = thing
                    self.assertIn(action(**args), (True, False), (action, thing))
                    self.assertIsInstance(action(**args), bool)

    def test_a_day_that_is_none_is_refused_ahead_of_the_way(self):
        self.assertIs(breaks_by(FIVE, [0] * 5, FIVE_DAY, None), False)
        self.assertIsNotNone(refusal(breaks_by, FIVE, [0] * 5, None, None))


class TestWholeNumbers(unittest.TestCase):
    def test_truths_are_no_whole_numbers(self):
        for thing in (True, False, None, "1", "", 1.0, [], [1], (1,), b"1"):
            self.assertIs(is_whole(thing), False, thing)
        for thing in (0, 1, -1, 10 ** 30, -10 ** 30):
            self.assertIs(is_whole(thing), True, thing)

    def test_counts_are_lists_of_whole_numbers_from_0_on(self):
        for thing in ([], [0], [0, 0, 7], [10 ** 30]):
            self.assertIs(are_counts(thing), True, thing)
        for thing in (None, 0, (), (1,), [-1], [0, -1], [True], [0, False], [None], [[0]], "01", {0: 1}, {0}):
            self.assertIs(are_counts(thing), False, thing)


if __name__ == "__main__":
    unittest.main()
