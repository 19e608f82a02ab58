"""Points 24 and 25: the desk."""

import unittest
from random import Random

from tests.samples import (
    FIVE, FIVE_DAY, FIVE_TEXT, FIVE_TILL, NEVER, OWED, customers_up_to, long_days, plain_levels, refusal, small_days,
    tills_up_to,
)
from tillpress.coins import levels_of
from tillpress.customers import is_customer
from tillpress.days import served, till_behind
from tillpress.desk import Desk
from tillpress.errors import NoChange, NoCustomer, NoDay, NoName, NoRow, NoText, NoTimes
from tillpress.needs import least_float, meets, needs
from tillpress.orders import needs_in_any_order
from tillpress.tables import levels_by, often, table_of
from tillpress.texts import read_day, show_day
from tillpress.tills import Till

SMALL = "coins 1 5;till 4 0;pays 3 0 1"
NONE = "coins 1 5;till 0 0"
FORTY = "coins 1 5;till 80 0" + ";pays 3 0 1" * 40
ASKED = ("show", "served", "levels", "needs", "any", "float")


def desk_of(**texts):
    """Make a desk with these days."""
    one = Desk()
    for name, text in texts.items():
        one.say(f"day {name} {text}")
    return one


def one_line(coins, till, day):
    return show_day(coins, till, day).replace("\n", ";")


def state_of(one):
    """Tell the names of a desk and what is shown by each."""
    return [(name, one.say("show " + name)) for name in one.names()]


def with_blanks(numbers):
    return " ".join(str(number) for number in numbers)


def plain_over(coins, till, day, times):
    """Tell the levels behind the day so many times over, customer by customer."""
    held = till
    for _ in range(times):
        if served(coins, held, day) < len(day):
            return "breaks"
        held = till_behind(coins, held, day)
    return with_blanks(plain_levels(coins, held))


class TestDays(unittest.TestCase):
    def test_a_new_desk_has_no_names(self):
        self.assertEqual(Desk().names(), [])

    def test_day_show_drop(self):
        one = Desk()
        self.assertEqual(one.say("day a " + SMALL), "ok")
        self.assertEqual(one.say("show a"), SMALL)
        self.assertEqual(one.say(row="day b " + NONE), "ok")
        self.assertEqual(one.names(), ["a", "b"])
        self.assertEqual(one.say("drop a"), "ok")
        self.assertEqual(one.names(), ["b"])
        self.assertIs(refusal(one.say, "show a").__class__, NoName)
        self.assertIs(refusal(one.say, "drop a").__class__, NoName)
        self.assertEqual(one.say("day a " + NONE), "ok")
        self.assertEqual(one.names(), ["a", "b"])

    def test_in_the_place_of_what_stood_there(self):
        one = desk_of(a=SMALL, b=NONE)
        self.assertEqual(one.say("day a coins 1 2 4;till 0 0 1"), "ok")
        self.assertEqual(state_of(one), [("a", "coins 1 2 4;till 0 0 1"), ("b", NONE)])
        self.assertEqual(one.say("come a 4 0 0 1"), "ok")
        self.assertEqual(one.say("day a " + SMALL), "ok")
        self.assertEqual(one.say("show a"), SMALL)

    def test_names_are_told_rising(self):
        one = Desk()
        names = ["till", "b", "abcdefgh", "z", "a", "ab", "zzzzzzzz", "day", "aa", "ok", "breaks"]
        for name in names:
            one.say(f"day {name} {NONE}")
        self.assertEqual(one.names(), sorted(names))
        told = one.names()
        told.clear()
        self.assertEqual(one.names(), sorted(names))
        self.assertIsNot(one.names(), one.names())

    def test_texts_that_write_a_day(self):
        for coins, till, day in small_days(10) + long_days(10) + [(FIVE, FIVE_TILL, FIVE_DAY), ([1, 5], [0, 0], [])]:
            one = desk_of(a=one_line(coins, till, day))
            self.assertEqual(one.say("show a"), one_line(coins, till, day))
        self.assertEqual(desk_of(a=FORTY).say("show a"), FORTY)
        great = "coins 1 5;till " + "9" * 30 + " 0"
        self.assertEqual(desk_of(a=great).say("show a"), great)

    def test_texts_that_write_none(self):
        one = desk_of(a=SMALL)
        for text, at in (
            ("", 0), (" ", 0), (" " + SMALL, 0), ("  " + SMALL, 0), (SMALL + " ", 2), (SMALL + ";", 3), (";" + SMALL, 0),
            ("coins 1 5", 1), ("coins  1 5;till 0 0", 0), ("coins 1 5;till 0  0", 1), ("coins 1 5; till 0 0", 1),
            ("coins 1 5 ;till 0 0", 0), ("coins 1 5;till 0", 2), ("coins 2 4;till 0 0", 2), ("coins 1 5;till 0 01", 1),
            ("coins 1 5;till 0 0;pays 6 0 1", 3), ("coins 1 5;till 0 0;pays", 2), ("coins 1 5:till 0 0", 0),
            ("coins 1 5;till 0 0;;pays 5 0 1", 2), ("till 0 0;coins 1 5", 0), ("coins 1 5;till 0 0;till 0 0", 2),
            (FORTY + ";pays 3 0 1", 43), ("show a", 0), ("coins 1 5;till 0 " + "1" * 31, 1), ("coins", 1), ("x y z", 0),
        ):
            for name in ("a", "b"):
                refused = refusal(one.say, f"day {name} {text}")
                self.assertIs(refused.__class__, NoText, text)
                self.assertEqual(refused.at, at, text)
                self.assertEqual(refused.at, refusal(read_day, text.replace(";", "\n")).at)
                self.assertEqual(state_of(one), [("a", SMALL)])

    def test_two_desks_stay_apart(self):
        one, other = desk_of(a=SMALL), desk_of(a=SMALL, b=NONE)
        one.say("come a 5 0 1")
        one.say("day c " + NONE)
        other.say("drop b")
        self.assertEqual(state_of(one), [("a", SMALL + ";pays 5 0 1"), ("c", NONE)])
        self.assertEqual(state_of(other), [("a", SMALL)])

    def test_two_names_with_one_text_stay_apart(self):
        one = desk_of(a=SMALL, b=SMALL)
        one.say("come a 5 0 1")
        one.say("come b 0 1 1")
        self.assertEqual(state_of(one), [("a", SMALL + ";pays 5 0 1"), ("b", SMALL + ";pays 0 1 1")])


class TestCome(unittest.TestCase):
    def test_one_customer_more_at_the_end(self):
        one = desk_of(a=NONE)
        self.assertEqual(one.say("served a"), "0")
        self.assertEqual(one.say("come a 2 2 0"), "ok")
        self.assertEqual(one.say("come a 3 0 1"), "ok")
        self.assertEqual(one.say("show a"), NONE + ";pays 2 2 0;pays 3 0 1")
        self.assertEqual(one.say("served a"), "2")
        self.assertEqual(one.say("come a 3 0 1"), "ok")
        self.assertEqual(one.say("served a"), "2")
        self.assertEqual(one.say("levels a"), "0 5")

    def test_coins_of_each_many(self):
        for coins in ([1, 2], [1, 2, 4], [1, 2, 4, 8], [1, 2, 4, 8, 16]):
            many = len(coins)
            one = desk_of(a=one_line(coins, [0] * many, []))
            for tried in range(1, 6):
                row = "come a 1" + " 1" * tried
                if tried == many:
                    self.assertEqual(one.say(row), "ok")
                else:
                    self.assertIs(refusal(one.say, row).__class__, NoCustomer, row)
            self.assertEqual(len(one.say("show a").split(";")), 3)

    def test_what_is_no_customer(self):
        one = desk_of(a=SMALL)
        for more in (
            "6 0 1", "1 0 0", "3 0", "3 5", "3 0 0 1", "3 0 0 0 0 1", "1000000001 0 1000000", "0 1000001 0",
            "0 0 1000001", "9" * 30 + " 0 1", "0 " + "9" * 30 + " 1",
        ):
            self.assertIs(refusal(one.say, "come a " + more).__class__, NoCustomer, more)
            self.assertEqual(state_of(one), [("a", SMALL)])
        for more in ("0 1000000 1000000", "0 0 0", "5 0 1", "6000000 1000000 1000000"):
            self.assertEqual(one.say("come a " + more), "ok")

    def test_forty_and_no_more(self):
        one = desk_of(a=NONE)
        for many in range(40):
            self.assertEqual(one.say(f"come a {many} {many} 0"), "ok")
        shown = one.say("show a")
        self.assertEqual(shown, NONE + "".join(f";pays {many} {many} 0" for many in range(40)))
        self.assertIs(refusal(one.say, "come a 5 0 1").__class__, NoDay)
        self.assertIs(refusal(one.say, "come a 6 0 1").__class__, NoCustomer)
        self.assertIs(refusal(one.say, "come a 5 1").__class__, NoCustomer)
        self.assertIs(refusal(one.say, "come b 5 0 1").__class__, NoName)
        self.assertIs(refusal(one.say, "come a 5").__class__, NoRow)
        self.assertEqual(one.say("show a"), shown)
        self.assertEqual(one.say("served a"), "40")


class TestAsking(unittest.TestCase):
    def test_told_ones(self):
        one = desk_of(a=SMALL, b=NONE + ";pays 3 0 1;pays 5 0 1", five=FIVE_TEXT.replace("\n", ";"))
        for row, told in (
            ("served a", "1"), ("levels a", "2 7"), ("needs a", "2 2"), ("any a", "2 2"), ("float a", "2 0"),
            ("over a 0", "4 4"), ("over a 1", "2 7"), ("over a 2", "0 10"), ("over a 3", "breaks"),
            ("served b", "0"), ("levels b", "0 0"), ("needs b", "2 2"), ("float b", "2 0"), ("over b 0", "0 0"),
            ("over b 1", "breaks"), ("served five", "3"), ("levels five", "7 22 22 122 422"),
            ("needs five", "0 0 26 26 26"), ("any five", "0 0 26 26 26"), ("float five", "1 1 2 0 0"),
            ("show five", FIVE_TEXT.replace("\n", ";")), ("over five 1", "7 22 22 122 422"), ("over five 2", "breaks"),
        ):
            self.assertEqual(one.say(row), told, row)

    def test_the_empty_day(self):
        one = desk_of(a="coins 1 5 10;till 3 1 2")
        for row, told in (
            ("served a", "0"), ("levels a", "3 8 28"), ("needs a", "0 0 0"), ("any a", "0 0 0"), ("float a", "0 0 0"),
            ("over a 0", "3 8 28"), ("over a 1000000000000000", "3 8 28"), ("show a", "coins 1 5 10;till 3 1 2"),
        ):
            self.assertEqual(one.say(row), told, row)

    def test_any_order_needs_more_than_this_one(self):
        one = desk_of(a=NONE + ";pays 2 2 0;pays 3 0 1")
        self.assertEqual(one.say("needs a"), "0 0")
        self.assertEqual(one.say("float a"), "0 0")
        self.assertEqual(one.say("any a"), "2 2")

    def test_as_the_functions_tell(self):
        for coins, till, day in small_days(40) + long_days(40):
            one = desk_of(name=one_line(coins, till, day))
            needed = needs(coins, day)
            behind = till_behind(coins, till, day)
            for word, told in (
                ("show", one_line(coins, till, day)), ("served", str(served(coins, till, day))),
                ("levels", with_blanks(plain_levels(coins, behind))), ("needs", with_blanks(needed)),
                ("any", with_blanks(needs_in_any_order(coins, day))), ("float", with_blanks(least_float(coins, needed))),
            ):
                self.assertEqual(one.say(word + " name"), told, (coins, till, day, word))

    def test_over_against_day_by_day(self):
        found = {}
        for coins, till, day in small_days(40) + long_days(40):
            one = desk_of(a=one_line(coins, till, day))
            for times in (0, 1, 2, 3, 7):
                told = one.say(f"over a {times}")
                self.assertEqual(told, plain_over(coins, till, day, times), (coins, till, day, times))
                found[told == "breaks"] = True
        self.assertEqual(len(found), 2)

    def test_over_very_many_times(self):
        one = desk_of(a="coins 1 5;till 2000000000000000 0;pays 3 0 1", b="coins 1 5;till 0 0;pays 2 2 0;pays 3 0 1")
        self.assertEqual(one.say("over a 1000000000000000"), "0 5000000000000000")
        self.assertEqual(one.say("over b 1000000000000000"), "0 5000000000000000")
        one.say("day a coins 1 5;till 1999999999999999 0;pays 3 0 1")
        self.assertEqual(one.say("over a 1000000000000000"), "breaks")
        self.assertEqual(one.say("over a 999999999999999"), "1 4999999999999996")

    def test_times_that_are_too_many(self):
        one = desk_of(a=SMALL, b="coins 1 5;till 0 0")
        for times in ("1000000000000001", "1" + "0" * 16, "9" * 30):
            for name in ("a", "b"):
                self.assertIs(refusal(one.say, f"over {name} {times}").__class__, NoTimes, times)
        self.assertEqual(one.say("over a 1000000000000000"), "breaks")

    def test_the_same_asked_again_is_answered_the_same(self):
        one = desk_of(a=SMALL)
        rows = [word + " a" for word in ASKED] + ["over a 2", "over a 9"]
        told = [one.say(row) for row in rows]
        self.assertEqual([one.say(row) for row in rows], told)
        self.assertEqual([one.say(row) for row in reversed(rows)], told[::-1])


class TestRefusals(unittest.TestCase):
    def check_no_row(self, one, row):
        before = state_of(one)
        self.assertIs(refusal(one.say, row).__class__, NoRow, row)
        self.assertEqual(state_of(one), before)

    def test_what_is_no_text(self):
        one = desk_of(a=SMALL)
        for row in NEVER + [b"show a", ["show a"], ["show", "a"], ("show", "a"), {"show": "a"}]:
            self.check_no_row(one, row)

    def test_line_feeds_and_tabs(self):
        one = desk_of(a=SMALL)
        rows = [word + " a" for word in ASKED + ("drop",)] + ["over a 1", "come a 5 0 1", "day a " + SMALL, "day b " + NONE]
        for row in rows:
            for sign in ("\n", "\t"):
                self.check_no_row(one, row + sign)
                self.check_no_row(one, sign + row)
                self.check_no_row(one, row.replace(" ", sign, 1))
                self.check_no_row(one, row.replace(" ", " " + sign, 1))
        self.check_no_row(one, "day a " + FIVE_TEXT)
        self.check_no_row(one, "day a \n")
        self.check_no_row(one, "day a \t")
        self.check_no_row(one, "day a coins 1\t5;till 0 0")

    def test_blanks(self):
        one = desk_of(a=SMALL)
        for row in [word + " a" for word in ASKED + ("drop",)] + ["over a 1", "come a 5 0 1"]:
            self.check_no_row(one, row + " ")
            self.check_no_row(one, " " + row)
            for at, sign in enumerate(row):
                if sign == " ":
                    self.check_no_row(one, row[:at] + "  " + row[at + 1:])
                    # Two numbers without the blank between them would be another number.
                    if not row.startswith("come"):
                        self.check_no_row(one, row[:at] + row[at + 1:])
        for row in (" day a " + NONE, "day  a " + NONE, "daya " + NONE, "day " + NONE.replace("coins", "COINS")):
            self.check_no_row(one, row)

    def test_a_word_too_many_or_too_few(self):
        one = desk_of(a=SMALL)
        for word in ASKED + ("drop",):
            for row in (word, word + " ", word + " a a", word + " a 1", word + " a b", word + "  "):
                self.check_no_row(one, row)
        for row in (
            "", " ", "a", "over", "over a", "over a ", "over a 1 1", "come", "come a", "come a 5", "come a 5 ", "day",
            "day a", "day ", "day  ", "day  a", "come a 5 0 0 0 0 0 1", "come a 5 0 0 0 0 0 0 0 0 1",
        ):
            self.check_no_row(one, row)

    def test_words_that_are_none(self):
        one = desk_of(a=SMALL)
        for word in ASKED + ("drop", "over", "come", "day"):
            for wrong in (word.upper(), word.capitalize(), word + "s", word[:-1], "x" + word, word + ":", word + "1"):
                for more in (" a", " a 1", " a 5 0 1", " a " + NONE):
                    self.check_no_row(one, wrong + more)
        for row in ("names", "names a", "table a", "tell a", "ok a", "0 a", "a show", "pays a", "swap a", "put a"):
            self.check_no_row(one, row)

    def test_numbers_that_are_none(self):
        one = desk_of(a=SMALL)
        for wrong in (
            "01", "00", "007", "+1", "-1", "-0", "1.0", "1_0", "x", "1x", "x1", "1e3", "0x1", "1" * 31, "0" * 30,
            "1" + "0" * 30, "''", ";", "1;", "a",
        ):
            for row in (
                "over a " + wrong, f"come a {wrong} 0 1", f"come a 5 {wrong} 1", f"come a 5 0 {wrong}",
                f"come a 5 0 0 0 0 {wrong}", "over b " + wrong, f"come b {wrong} 0 1",
            ):
                self.check_no_row(one, row)
        self.assertEqual(one.say("come a 0 0 0"), "ok")
        self.assertEqual(one.say("over a 0"), "4 4")

    def test_names_that_are_none(self):
        one = desk_of(a=SMALL)
        for name in (
            "", "abcdefghi", "A", "aB", "Ab", "a1", "1", "0", "1a", "a_b", "_", "a-b", "a.b", "a;b", "a:", "'a'", "*",
            "ABCDEFGH", "zzzzzzzzz", "aaaaaaaaaaaaaaaa",
        ):
            for word in ASKED + ("drop",):
                self.check_no_row(one, f"{word} {name}")
            for row in (f"over {name} 1", f"come {name} 5 0 1", f"day {name} {NONE}", f"day {name} ", f"day {name} x"):
                self.check_no_row(one, row)
        for name in ("a", "z", "ab", "abcdefgh", "zzzzzzzz", "coins", "come"):
            self.assertEqual(one.say(f"day {name} {NONE}"), "ok")
            self.assertEqual(one.say(f"show {name}"), NONE)

    def test_names_by_which_no_day_stands(self):
        one = desk_of(a=SMALL)
        rows = [word + " b" for word in ASKED + ("drop",)] + [
            "over b 1", "over b 0", "over b 1000000000000001", "come b 5 0 1", "come b 6 0 1", "come b 5 1",
            "come b 5 0 0 0 0 1", "show aa", "show aaaaaaaa", "drop ab",
        ]
        for row in rows:
            self.assertIs(refusal(one.say, row).__class__, NoName, row)
            self.assertIs(refusal(Desk().say, row).__class__, NoName, row)
            self.assertEqual(state_of(one), [("a", SMALL)])
        self.assertIs(refusal(one.say, "day b x").__class__, NoText)
        self.assertEqual(one.say("day b " + NONE), "ok")

    def test_the_order_of_refusals(self):
        one = desk_of(a=SMALL, full=FORTY)
        before = state_of(one)
        for row, error in (
            ("over b 01", NoRow), ("over b 1000000000000001", NoName), ("over a 1000000000000001", NoTimes),
            ("come b 6 01 1", NoRow), ("come b 6 0 1", NoName), ("come full 6 0 1", NoCustomer),
            ("come full 3 0 1", NoDay), ("come full 3 1", NoCustomer), ("come full 3", NoRow), ("day B x", NoRow),
            ("day b x", NoText), ("day b", NoRow), ("day a x\ty", NoRow), ("day a x", NoText), ("show b b", NoRow),
            ("show b", NoName), ("SHOW b", NoRow),
        ):
            self.assertIs(refusal(one.say, row).__class__, error, row)
            self.assertEqual(state_of(one), before, row)

    def test_what_is_refused_changes_nothing_at_any_name(self):
        one = desk_of(a=SMALL, b=NONE, full=FORTY)
        told = [one.say(f"{word} {name}") for word in ASKED for name in one.names()]
        for row in (
            None, "", "drop", "drop c", "drop a b", "day a x", "day a ", "day b coins 1 5;till 0", "come a 6 0 1",
            "come b 1 0 0", "come full 3 0 1", "come c 3 0 1", "over a 1000000000000001", "over full " + "9" * 16,
        ):
            self.assertIsNotNone(refusal(one.say, row), row)
            self.assertEqual(one.names(), ["a", "b", "full"])
            self.assertEqual([one.say(f"{word} {name}") for word in ASKED for name in one.names()], told)


class TestTogether(unittest.TestCase):
    def test_a_till_a_desk_and_the_functions_tell_alike(self):
        for coins, till, day in small_days(30) + long_days(30):
            one, desk = Till(coins, till), desk_of(a=one_line(coins, till, []))
            for many, customer in enumerate(day):
                desk.say(f"come a {customer[0]} {with_blanks(customer[1])}")
                part = day[:many + 1]
                if refusal(one.serve, customer) is not None:
                    break
                self.assertEqual(len(one), served(coins, till, part))
                self.assertEqual(one.till(), till_behind(coins, till, part))
                self.assertEqual(desk.say("served a"), str(len(one)))
                self.assertEqual(desk.say("levels a"), with_blanks(one.levels()))
                self.assertEqual(desk.say("over a 1"), with_blanks(one.levels()))
                told = levels_by(coins, levels_of(coins, till), table_of(coins, part))
                self.assertEqual(told, one.levels())
            coins_shown, till_shown, day_shown = read_day(desk.say("show a").replace(";", "\n"))
            self.assertEqual((coins_shown, till_shown), (coins, till))
            self.assertEqual(day_shown, day[:len(day_shown)])
            self.assertEqual(desk.say("served a"), str(served(coins, till, day)))
            self.assertEqual(desk.say("needs a"), with_blanks(needs(coins, day_shown)))
            self.assertEqual(desk.say("any a"), with_blanks(needs_in_any_order(coins, day_shown)))

    def test_over_against_the_table(self):
        for coins, till, day in long_days(20):
            desk = desk_of(a=one_line(coins, till, day))
            for times in (0, 5, 10 ** 9, 10 ** 15):
                table = often(coins, table_of(coins, day), times)
                if meets(coins, till, table[1]):
                    told = with_blanks(levels_by(coins, levels_of(coins, till), table))
                else:
                    self.assertIs(refusal(levels_by, coins, levels_of(coins, till), table).__class__, NoChange)
                    told = "breaks"
                self.assertEqual(desk.say(f"over a {times}"), told, (coins, till, day, times))

    def test_the_float_of_a_desk_serves_its_day_and_none_of_less_does(self):
        for coins, till, day in small_days(15):
            desk = desk_of(a=one_line(coins, till, day))
            held = [int(word) for word in desk.say("float a").split(" ")]
            desk.say("day a " + one_line(coins, held, day))
            self.assertEqual(desk.say("served a"), str(len(day)))
            for poor in tills_up_to(coins, 2):
                if levels_of(coins, poor)[-1] < levels_of(coins, held)[-1]:
                    self.assertLess(served(coins, poor, day), len(day))

    def test_many_rows_by_chance(self):
        chance = Random(24)
        one, kept = Desk(), {}
        customers = customers_up_to([1, 5], 1) + customers_up_to([1, 2, 4], 1)
        for _ in range(600):
            name = chance.choice("abcd")
            word = chance.choice(["day", "drop", "come", "come", "come", "come"])
            if word == "day":
                coins = chance.choice([[1, 5], [1, 2, 4]])
                kept[name] = (coins, [chance.randrange(4) for _ in coins], [])
                self.assertEqual(one.say(f"day {name} " + one_line(*kept[name])), "ok")
            elif name not in kept:
                self.assertIs(refusal(one.say, f"drop {name}").__class__, NoName)
            elif word == "drop":
                self.assertEqual(one.say("drop " + name), "ok")
                del kept[name]
            else:
                self.come(one, name, chance.choice(customers), kept[name])
            self.assertEqual(state_of(one), [(name, one_line(*kept[name])) for name in sorted(kept)])

    def come(self, one, name, customer, held):
        """Let a customer come who may be none of these coins."""
        coins, till, day = held
        row = f"come {name} {customer[0]} {with_blanks(customer[1])}"
        if is_customer(coins, customer):
            self.assertEqual(one.say(row), "ok")
            day.append(customer)
        else:
            self.assertIs(refusal(one.say, row).__class__, NoCustomer)
        self.assertEqual(one.say("served " + name), str(served(coins, till, day)))
        self.assertEqual(one.say("levels " + name), with_blanks(levels_of(coins, till_behind(coins, till, day))))

    def test_five_coins(self):
        desk = desk_of(five=one_line(FIVE, FIVE_TILL, FIVE_DAY))
        desk.say(f"come five {OWED[0]} {with_blanks(OWED[1])}")
        self.assertEqual(desk.say("needs five"), with_blanks(needs(FIVE, FIVE_DAY + [OWED])))
        self.assertEqual(desk.say("served five"), str(served(FIVE, FIVE_TILL, FIVE_DAY + [OWED])))


if __name__ == "__main__":
    unittest.main()
