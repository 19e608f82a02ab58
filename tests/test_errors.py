"""The refusals: their classes, and what they keep."""

import unittest

from tillpress import errors
from tillpress.errors import NoChange, NoText, TillError

PLAIN = [
    "NoCoins", "NoTill", "NoLevels", "NoCustomer", "TooMany", "NoDay", "NoNeeds", "NoTable", "NoTimes",
    "NoKinds", "NoSwap", "NoRow", "NoName",
]


class TestErrors(unittest.TestCase):
    def classes(self):
        return [getattr(errors, name) for name in PLAIN] + [NoChange, NoText]

    def test_all_are_under_till_error(self):
        self.assertTrue(issubclass(TillError, ValueError))
        for one in self.classes():
            self.assertTrue(issubclass(one, TillError), one)
            self.assertIsNot(one, TillError)

    def test_none_is_under_another_one(self):
        for one in self.classes():
            for other in self.classes():
                if one is not other:
                    self.assertFalse(issubclass(one, other), (one, other))

    def test_all_are_defined_in_this_file(self):
        for one in self.classes() + [TillError]:
            self.assertEqual(one.__module__, "tillpress.errors")

    def test_the_plain_ones_can_be_raised_with_and_without_words(self):
        for one in self.classes()[:-2] + [TillError]:
            with self.assertRaises(one):
                raise one
            with self.assertRaises(ValueError):
                raise one("words")

    def test_no_change_keeps_level(self):
        self.assertEqual(NoChange(3).level, 3)
        self.assertEqual(NoChange(0).level, 0)
        self.assertIsNone(NoChange().level)
        self.assertIsNone(NoChange(None).level)

    def test_no_text_keeps_at(self):
        self.assertEqual(NoText(3).at, 3)
        self.assertEqual(NoText(0).at, 0)
        self.assertIsNone(NoText().at)
        self.assertIsNone(NoText(None).at)


if __name__ == "__main__":
    unittest.main()
