"""Promise [20]: the texts of rows, days and plans; of [2], [3] and [4] what holds of them."""

import re
import unittest
from itertools import product

import small
import small_days
from fewestwait.errors import InvalidText
from fewestwait.rows import Row
from fewestwait.texts import read_day, read_plan, read_row, show_day, show_plan, show_row

GREAT = 10 ** 30 - 1
READERS = [read_row, read_day, read_plan]

ROWS = [list(items) for items in small.all_rows(3, 12)] + [[GREAT], [GREAT, GREAT - 1, 10 ** 29, 1], [100] * 60]
DAYS = small_days.all_days(2, 2, 12)
DAYS += [[(GREAT, GREAT)], [(0, GREAT), (10, 1), (10, 30), (GREAT, 7)], [(300, 100)] * 30]
PLANS = [list(plan) for size in range(4) for plan in product([None, 0, 1, 10], repeat=size)]
PLANS += [[GREAT], [None, GREAT, 0, GREAT - 1, 29], [7] * 400]

# Values of all kinds that are no strings.
NO_STRINGS = [None, True, False, 0, 1, 1.0, b"-", b"1", [], ["-"], ["1"], (), ("1",), {}, {"-": 1}, {"1"}, range(2),
              object(), small.EqualToAll(), Row([1]), [(0, 1)], [0]]

# Strings that have no form of any text.
NO_TEXTS = [
    "", " ", "  ", "--", "- -", " -", "- ", "-1", "+1", "1-", "1 -", "- 1", "1  1", " 1", "1 ", "1\n", "\n1", "1\n1",
    "1\t1", "\t", "1,1", "1.0", "1.", ".1", "1e1", "0x1", "1_0", "a", "1 a", "00", "01", "1 01", "001", "-0", "1/1",
    "/", "1 1\n", "None", "[1]", "(0, 1)", "\u0661", "\u00b2", "\uff11", "1\u00a01", "1\u20031", "\u2212", "\u2013",
    "\x00", "1\x00", "9" * 31, "1" + "0" * 30, "0" * 30, "0" * 31, "1 " + "9" * 31, "1" * 5000, "0:1 ", " 0:1",
    "0:1  0:1", "0:1\n", "0:", ":1", ":", "0::1", "0:1:1", "0 :1", "0: 1", "0:01", "00:1", "0:00", "-1:1", "0:-1",
    "0:+1", "0:1,0:1", "0;1", "0:0", "1:0", "0:1 0:0", "1:1 0:1", "0:1 2:1 1:1", "0:1 -", "- 0:1", "0:1 .", ". 0:1",
    "0:\u0661", "\u0661:1", "0:" + "9" * 31, "9" * 31 + ":1", "0:1" + "0" * 30, ":" * 50, ". ", " .", ".  .", "..",
    ".,.", ". -", "- .", "0:1_0", "1_0:1", "0:1.0", "0.0:1", ". 0\n", "0 \u0660",
]
NOT_FOR = {
    read_row: ["0", "0 0", "1 0", "1 2", "2 1 2", "10 9 10", "9 10", ".", "1 .", "0:1", "1 " + "9" * 30],
    read_day: ["0", "1", ".", "1 1", "0:1 1", "0:1 1:1 0:1", "10:1 9:1"],
    read_plan: ["0:1", "0 0:1", "0 -1", ". 00", "0 .1"],
}
NUMBER = "(0|[1-9][0-9]{0,29})"


class Show(unittest.TestCase):
    def test_rows(self):
        self.assertEqual(show_row(Row([1, 3, 12, 3])), "12 3 3 1")
        self.assertEqual(show_row(Row([7])), "7")
        self.assertEqual(show_row(Row([])), "-")
        self.assertEqual(show_row(Row([GREAT, 1])), "9" * 30 + " 1")

    def test_days(self):
        self.assertEqual(show_day([(0, 3), (1, 1), (1, 20)]), "0:3 1:1 1:20")
        self.assertEqual(show_day([(10, 7)]), "10:7")
        self.assertEqual(show_day([]), "-")
        self.assertEqual(show_day([(GREAT, GREAT)]), "9" * 30 + ":" + "9" * 30)

    def test_plans(self):
        self.assertEqual(show_plan([0, None, 12, 0]), "0 . 12 0")
        self.assertEqual(show_plan([0]), "0")
        self.assertEqual(show_plan([None]), ".")
        self.assertEqual(show_plan([]), "-")
        self.assertEqual(show_plan([GREAT, None]), "9" * 30 + " .")


class Read(unittest.TestCase):
    def test_ordinary(self):
        self.assertEqual(read_row("12 3 3 1"), Row([1, 3, 3, 12]))
        self.assertEqual(read_day("0:3 1:1 1:20"), [(0, 3), (1, 1), (1, 20)])
        self.assertEqual(read_plan("0 . 12 0"), [0, None, 12, 0])

    def test_empty_ones(self):
        self.assertEqual(read_row("-"), Row([]))
        self.assertEqual(read_day("-"), [])
        self.assertEqual(read_plan("-"), [])

    def test_kinds_of_values(self):
        self.assertIs(type(read_row("1")), Row)
        self.assertIs(type(read_day("0:1")), list)
        self.assertIs(type(read_day("0:1")[0]), tuple)
        self.assertIs(type(read_plan("0 .")), list)
        self.assertEqual([type(item) for item in read_plan("0 .")], [int, type(None)])

    def test_texts_are_read_as_what_they_show(self):
        for items in ROWS:
            self.assertEqual(read_row(show_row(Row(items))), Row(items))
        for day in DAYS:
            self.assertEqual(read_day(show_day(day)), day)
        for plan in PLANS:
            self.assertEqual(read_plan(show_plan(plan)), plan)

    def test_thirty_digits_and_no_more(self):
        for digits in ("9" * 30, "1" + "0" * 29):
            self.assertEqual(read_row(digits), Row([int(digits)]))
            self.assertEqual(read_day(f"{digits}:{digits}"), [(int(digits), int(digits))])
            self.assertEqual(read_plan(digits), [int(digits)])
        for digits in ("9" * 31, "1" + "0" * 30, "9" * 5000):
            for reader, text in [(read_row, digits), (read_row, digits + " 1"), (read_day, f"0:{digits}"),
                                 (read_day, f"{digits}:1"), (read_plan, digits), (read_plan, ". " + digits)]:
                with self.assertRaises(InvalidText):
                    reader(text)

    def test_minutes_and_numbers_may_be_0(self):
        self.assertEqual(read_day("0:1 0:2"), [(0, 1), (0, 2)])
        self.assertEqual(read_plan("0 0"), [0, 0])

    def test_people_of_a_plan_are_of_no_day(self):
        self.assertEqual(read_plan("5 . 5 100"), [5, None, 5, 100])


class Refused(unittest.TestCase):
    def test_values_that_are_no_strings(self):
        for reader in READERS:
            for value in NO_STRINGS:
                with self.subTest(reader=reader, value=value), self.assertRaises(InvalidText):
                    reader(value)

    def test_strings_that_are_no_texts(self):
        for reader in READERS:
            for text in NO_TEXTS:
                with self.subTest(reader=reader, text=text), self.assertRaises(InvalidText):
                    reader(text)

    def test_texts_of_something_else(self):
        for reader, texts in NOT_FOR.items():
            for text in texts:
                with self.subTest(reader=reader, text=text), self.assertRaises(InvalidText):
                    reader(text)

    def assertReads(self, reader, show, text, fits):
        """The text is read, and is the one of what it is read as, exactly if it fits."""
        if fits:
            self.assertEqual(show(reader(text)), text)
        else:
            with self.subTest(text=text), self.assertRaises(InvalidText):
                reader(text)

    def test_all_short_strings(self):
        for size in range(6):
            for signs in product(" -.:012", repeat=size):
                text = "".join(signs)
                self.assertReads(read_row, show_row, text, is_row_text(text))
                self.assertReads(read_day, show_day, text, is_day_text(text))
                self.assertReads(read_plan, show_plan, text, is_plan_text(text))

    def test_longer_strings(self):
        words = ["0:1", "1:2", "0:0", "10:3", "9:1", "0", "1", "9", "10", ".", "-", "", "01"]
        for size in range(4):
            for chosen in product(words, repeat=size):
                text = " ".join(chosen)
                self.assertReads(read_row, show_row, text, is_row_text(text))
                self.assertReads(read_day, show_day, text, is_day_text(text))
                self.assertReads(read_plan, show_plan, text, is_plan_text(text))


def is_row_text(text):
    if text == "-":
        return True
    if not re.fullmatch(f"{NUMBER}( {NUMBER})*", text):
        return False
    items = [int(word) for word in text.split()]
    return items[-1] > 0 and all(one >= other for one, other in zip(items, items[1:]))


def is_day_text(text):
    if text == "-":
        return True
    if not re.fullmatch(f"{NUMBER}:{NUMBER}( {NUMBER}:{NUMBER})*", text):
        return False
    minutes = [int(word.split(":")[0]) for word in text.split()]
    works = [int(word.split(":")[1]) for word in text.split()]
    return all(works) and all(one <= other for one, other in zip(minutes, minutes[1:]))


def is_plan_text(text):
    return re.fullmatch(f"-|({NUMBER}|[.])( ({NUMBER}|[.]))*", text) is not None


class CopiesAndSameResults(unittest.TestCase):
    def test_arguments_are_not_changed(self):
        row, day, plan = Row([3, 1]), [(0, 3), (1, 1)], [0, None]
        self.assertEqual((show_row(row), show_day(day), show_plan(plan)), ("3 1", "0:3 1:1", "0 ."))
        self.assertEqual((row, day, plan), (Row([3, 1]), [(0, 3), (1, 1)], [0, None]))

    def test_what_is_returned_may_be_changed_afterwards(self):
        for reader, text in [(read_day, "0:3 1:1"), (read_day, "-"), (read_plan, "0 . 1"), (read_plan, "-")]:
            first = reader(text)
            kept = list(first)
            first.append(7)
            first[0] = 8
            self.assertEqual(reader(text), kept)


if __name__ == "__main__":
    unittest.main()
