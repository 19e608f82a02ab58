"""Point 23: a day with its coins and till, written and read back."""

import copy
import unittest

from tests.samples import (
    FIVE, FIVE_DAY, FIVE_TEXT, FIVE_TILL, NEVER, NEVER_COINS, NEVER_DAY, NEVER_TILL, OWED, customers_up_to, lists_within,
    long_days, refusal, small_days,
)
from tillpress.errors import NoCoins, NoDay, NoText, NoTill
from tillpress.texts import read_day, show_day

OWED_TWO = (3, [0, 1])
# Rows that have the form of one of each place, whatever they are worth.
FORMS = (
    ["coins", "coins 1 5", "coins 1 5 10", "coins 0", "coins 7 7 7 7 7 7 7", "coins " + "9" * 30],
    ["till", "till 0 0", "till 3 1 2", "till 0", "till 7 7 7 7 7 7 7", "till " + "9" * 30],
    ["pays 0", "pays 3 0 1", "pays 3 0 0 1", "pays 99999", "pays 7 7 7 7 7 7 7", "pays " + "9" * 30 + " 0"],
)


def one_thing_otherwise(row):
    """List rows that have no form, each of them other than this one by one thing."""
    word = row.split(" ")[0]
    more = row[len(word):]
    out = [
        " " + row, row + " ", "\t" + row, row + "\t", word[:-1] + more, word + "s" + more, word.upper() + more,
        word.capitalize() + more, more, more.strip(), "", " ", row + ";", row + "\r", "x" + row, word + ":" + more,
        "bags" + more, "day" + more, word + "1" + more,
    ]
    for wrong in (
        "01", "00", "+1", "-1", "-0", "1.0", "1_0", "1,0", "x", "1x", "x1", "a", "1e3", "0x1", "coins", "till", "pays",
        "1" * 31, "0" * 30, "1" + "0" * 30, "", "''", "None", "True", ";",
    ):
        out.append(row + " " + wrong)
        if more:
            out.append(word + " " + wrong + more)
            out.append(row[:row.rindex(" ") + 1] + wrong)
    for at, sign in enumerate(row):
        if sign == " ":
            out.append(row[:at] + "  " + row[at + 1:])
            out.append(row[:at] + "\t" + row[at + 1:])
    return out


class TestShowDay(unittest.TestCase):
    def test_letter_by_letter(self):
        for coins, till, day, told in (
            ([1, 5], [0, 0], [], "coins 1 5\ntill 0 0"),
            ([1, 5, 10], [3, 1, 2], [], "coins 1 5 10\ntill 3 1 2"),
            ([1, 5], [12, 0], [OWED_TWO], "coins 1 5\ntill 12 0\npays 3 0 1"),
            ([1, 100000], [0, 10], [(0, [0, 0]), (10 ** 9, [10 ** 6, 10 ** 6])],
             "coins 1 100000\ntill 0 10\npays 0 0 0\npays 1000000000 1000000 1000000"),
            (FIVE, FIVE_TILL, FIVE_DAY, FIVE_TEXT),
        ):
            self.assertEqual(show_day(coins, till, day), told)

    def test_forty(self):
        told = show_day([1, 5], [80, 0], [OWED_TWO] * 40)
        self.assertEqual(told, "coins 1 5\ntill 80 0" + "\npays 3 0 1" * 40)

    def test_it_is_a_text(self):
        self.assertIs(type(show_day([1, 5], [0, 0], [])), str)

    def test_numbers_of_many_figures_are_written(self):
        for many in (10 ** 29, 10 ** 30 - 1, 10 ** 30, 10 ** 40 + 7):
            self.assertEqual(show_day([1, 5], [many, 0], []), f"coins 1 5\ntill {many} 0")

    def test_what_are_no_coins_till_and_day(self):
        for coins in NEVER_COINS:
            self.assertIs(refusal(show_day, coins, FIVE_TILL, FIVE_DAY).__class__, NoCoins, coins)
            self.assertIs(refusal(show_day, coins, None, None).__class__, NoCoins, coins)
        for till in NEVER_TILL:
            self.assertIs(refusal(show_day, FIVE, till, FIVE_DAY).__class__, NoTill, till)
            self.assertIs(refusal(show_day, FIVE, till, None).__class__, NoTill, till)
        for day in NEVER_DAY:
            self.assertIs(refusal(show_day, FIVE, FIVE_TILL, day).__class__, NoDay, day)
        self.assertIs(refusal(show_day, [1, 5], [0, 0], [OWED]).__class__, NoDay)
        self.assertIs(refusal(show_day, [1, 5], [0, 0], [OWED_TWO] * 41).__class__, NoDay)


class TestReadDay(unittest.TestCase):
    def test_what_was_written_is_read_back(self):
        for coins, till, day in small_days(30) + long_days(20) + [
            ([1, 5], [0, 0], []), (FIVE, FIVE_TILL, FIVE_DAY), ([1, 5], [80, 0], [OWED_TWO] * 40),
            ([1, 100000], [10 ** 30 - 1, 10 ** 29], [(10 ** 9, [10 ** 6, 10 ** 6])]),
            ([1, 2], [0, 0], customers_up_to([1, 2], 2)[:40]),
        ]:
            text = show_day(coins, till, day)
            self.assertEqual(read_day(text), (coins, till, day))
            self.assertEqual(show_day(*read_day(text)), text)

    def test_the_shape(self):
        told = read_day(FIVE_TEXT)
        self.assertIs(type(told), tuple)
        coins, till, day = told
        self.assertEqual([type(one) for one in (coins, till, day)], [list, list, list])
        for customer in day:
            self.assertIs(type(customer), tuple)
            self.assertIs(type(customer[0]), int)
            self.assertIs(type(customer[1]), list)
        self.assertEqual(read_day("coins 1 5\ntill 0 0"), ([1, 5], [0, 0], []))
        self.assertEqual(read_day(text="coins 1 5\ntill 0 7\npays 0 0 0"), ([1, 5], [0, 7], [(0, [0, 0])]))

    def test_changing_what_was_read_changes_nothing_read_later(self):
        first = read_day(FIVE_TEXT)
        kept = copy.deepcopy(first)
        second = read_day(FIVE_TEXT)
        self.assertEqual(len({id(one) for one in lists_within(first) + lists_within(second)}), 12)
        for one in lists_within(first):
            one.clear()
        self.assertEqual(read_day(FIVE_TEXT), kept)
        self.assertEqual(second, kept)

    def test_thirty_figures_and_thirty_one(self):
        for till in ("9" * 30 + " 0", "0 " + "1" + "0" * 29):
            self.assertEqual(read_day("coins 1 5\ntill " + till)[1], [int(word) for word in till.split()])
        for till in ("9" * 31 + " 0", "0 1" + "0" * 30):
            self.check_at("coins 1 5\ntill " + till, 1)

    def check_at(self, text, at):
        refused = refusal(read_day, text)
        self.assertIs(refused.__class__, NoText, text)
        self.assertEqual(refused.at, at, text)

    def test_a_row_that_has_no_form(self):
        good = ("coins 1 5", "till 3 1", "pays 3 0 1")
        for place, forms in enumerate(FORMS):
            for form in forms:
                for row in one_thing_otherwise(form):
                    rows = list(good)
                    rows[place] = row
                    self.check_at("\n".join(rows), place)
                    self.check_at("\n".join(rows[:place + 1]), place)
                    if place == 2:
                        self.check_at("\n".join(list(good) + rows[2:] + ["pays 0 0 0"]), 3)

    def test_a_price_there_must_be(self):
        self.check_at("coins 1 5\ntill 0 0\npays", 2)
        self.check_at("coins 1 5\ntill 0 0\npays 0 0 0\npays", 3)
        self.check_at("coins 1 5\ntill 0 0\npays ", 2)
        # With a price alone it has a form, though it tells no customer.
        self.check_at("coins 1 5\ntill 0 0\npays 0", 3)

    def test_rows_out_of_their_places(self):
        coins, till, pays = "coins 1 5", "till 0 0", "pays 0 0 0"
        for rows, at in (
            ([till], 0), ([pays], 0), ([till, coins], 0), ([pays, coins, till], 0), ([coins, coins, till], 1),
            ([coins, pays], 1), ([coins, pays, till], 1), ([coins, till, till], 2), ([coins, till, coins], 2),
            ([coins, till, pays, till], 3), ([coins, till, pays, coins, pays], 3), ([coins, till, pays, pays, till], 4),
        ):
            self.check_at("\n".join(rows), at)

    def test_an_empty_row(self):
        self.check_at("", 0)
        self.check_at("\n", 0)
        self.check_at("\ncoins 1 5\ntill 0 0", 0)
        self.check_at("coins 1 5\n", 1)
        self.check_at("coins 1 5\n\ntill 0 0", 1)
        self.check_at("coins 1 5\ntill 0 0\n", 2)
        self.check_at("coins 1 5\ntill 0 0\n\n", 2)
        self.check_at("coins 1 5\ntill 0 0\n\npays 0 0 0", 2)
        self.check_at("coins 1 5\ntill 0 0\npays 0 0 0\n", 3)
        self.check_at(FIVE_TEXT + "\n", 5)

    def test_the_first_row_that_has_no_form_is_told(self):
        self.check_at("coins 2 4\ntill 01\npays -1", 1)
        self.check_at("coins\ntill\npays 1\npays\nx", 3)
        self.check_at("x\ny\nz", 0)
        self.check_at("coins 1 5\ntill 0 0 0\npays 7 7\npays 3 0 1 \npays", 3)

    def test_all_have_a_form_but_tell_no_coins_no_till_or_no_day(self):
        for text in (
            "coins", "coins 1 5", "coins 1 5 10 50 100", "coins 0", "coins\ntill", "coins 1\ntill 0", "coins 1 5\ntill",
            "coins 2 4\ntill 0 0", "coins 5 1\ntill 0 0", "coins 1 5 12\ntill 0 0 0", "coins 1 100001\ntill 0 0",
            "coins 1 2 4 8 16 32\ntill 0 0 0 0 0 0", "coins 1 5\ntill 0", "coins 1 5\ntill 0 0 0", "coins\ntill 0 0",
            "coins 0 5\ntill 0 0", "coins 1 0\ntill 0 0", "coins 1 1\ntill 0 0",
            "coins 1 5\ntill 0 0\npays 6 0 1", "coins 1 5\ntill 0 0\npays 0 0", "coins 1 5\ntill 0 0\npays 0 0 0 0",
            "coins 1 5\ntill 0 0\npays 0", "coins 1 5\ntill 0 0\npays 0 1000001 0", "coins 1 5\ntill 0\npays 0 0 0",
            "coins 1 100000\ntill 0 0\npays 1000000001 0 1000000", "coins 2 5\ntill 0 0\npays 0 0 0\npays 0 0 0",
            "coins 1 5\ntill 0 0\npays 0 0 0\npays 1 0 0\npays 0 0 0", "coins 1 5\ntill 0 0" + "\npays 0 0 0" * 41,
        ):
            self.check_at(text, len(text.split("\n")))
        self.assertEqual(len(read_day("coins 1 5\ntill 0 0" + "\npays 0 0 0" * 40)[2]), 40)

    def test_what_is_no_text(self):
        for thing in NEVER:
            refused = refusal(read_day, thing)
            self.assertIs(refused.__class__, NoText, thing)
            if not isinstance(thing, str):
                self.assertIsNone(refused.at, thing)
        for thing in (FIVE_TEXT.encode(), [FIVE_TEXT], (FIVE_TEXT,), FIVE_TEXT.split("\n"), {FIVE_TEXT: 1}, None, 0, True):
            refused = refusal(read_day, thing)
            self.assertIs(refused.__class__, NoText, thing)
            self.assertIsNone(refused.at, thing)

    def test_a_long_text(self):
        self.check_at("coins 1 5" * 300, 0)
        self.check_at("\n" * 2999, 0)
        self.check_at("coins" + " 1" * 400 + "\ntill" + " 0" * 400, 2)


if __name__ == "__main__":
    unittest.main()
