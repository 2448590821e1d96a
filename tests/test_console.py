"""Promise [21]: the console; of [2], [3], [4] and [5] (g) what holds of it."""

import unittest
from itertools import product

import small
from fewestwait.console import Console
from fewestwait.errors import InvalidCommand, NotReady, NothingToUndo
from fewestwait.live import LiveDay
from fewestwait.rows import Row, not_evener, not_fewer
from fewestwait.rules import First, Longest, Shortest, Turns
from fewestwait.texts import show_day, show_plan, show_row

RULES = {"shortest": Shortest, "first": First, "longest": Longest, "turns": Turns}
READING = ["row", "plan", "comings", "waiting"]
WITH_A_DAY = ["come 1", "over", "back 0", "back 1", "back " + "9" * 30] + READING

NO_STRINGS = [None, True, False, 0, 1, 1.0, b"row", b"day first", [], ["row"], ["day", "first"], (), ("row",), {},
              {"row"}, {"row": 1}, range(2), object(), small.EqualToAll(), Row([1]), Shortest()]
NO_COMMANDS = [
    "", " ", "  ", "-", ".", "/", "0", "1", "ok", "yes", "Row", "ROW", "rows", "ro", "row ", " row", "row row", "row 1",
    "row -", "row\n", "\nrow", "row\t", "row\x00", "plan ", "plan 0", "plan plan", "comings ", "comings 1", "coming",
    "waiting ", "waiting 1", "wait", "over ", " over", "over 1", "over 0", "over over", "Over", "overs",
    "day", "day ", "day  first", " day first", "day first ", "day First", "day FIRST", "day shortest first", "day none",
    "day 1", "day longest\n", "day\tfirst", "day None", "day Shortest", "day round", "first", "shortest", "first day",
    "come", "come ", "come  1", "come 1 ", " come 1", "come 0", "come 00", "come 01", "come -1", "come +1", "come 1.0",
    "come 1_0", "come a", "come .", "come -", "come 1 1", "come 1 2", "come\t1", "come 1\n", "come True", "come None",
    "come \u0661", "come \u00b2", "come \uff11", "come " + "9" * 31, "come 1" + "0" * 30, "come " + "0" * 30, "come1",
    "come" + "1" * 5000, "come " + "1" * 5000,
    "back", "back ", "back  1", "back 1 ", "back -1", "back 00", "back 01", "back +1", "back 1 1", "back a", "back .",
    "back -", "back " + "9" * 31, "back 1" + "0" * 30, "back \u0661", "back count=1", "back None",
    "fewer", "fewer ", "fewer /", "fewer / ", "fewer  / ", "fewer - -", "fewer -/-", "fewer - /-", "fewer -/ -",
    "fewer - / ", "fewer  / -", "fewer / -", "fewer - /", "fewer - / - ", "fewer  - / -", "fewer -  / -",
    "fewer - /  -", "fewer - / - / -", "fewer - / / -", "fewer / / -", "fewer - - / -", "fewer 1", "fewer 1 2",
    "fewer 1 / 0", "fewer 0 / 1", "fewer 1 2 / 1", "fewer 1 / 1 2", "fewer 2 1 2 / 1", "fewer 01 / 1", "fewer 1 / 01",
    "fewer 1  1 / 1", "fewer 1 / 1\n", "fewer 1 / a", "fewer a / 1", "fewer 1 . / 1", "fewer 1 / 1 -", "fewer 1, 1 / 1",
    "fewer 0:1 / 1", "fewer -1 / 1", "fewer " + "9" * 31 + " / 1", "fewer 1 / " + "9" * 31, "Fewer - / -",
    " fewer - / -", "fewer\t- / -", "fewer 1 \\ 1",
    "evener", "evener 1", "evener 1 2", "evener / 1", "evener 1 /", "evener 1 / 1 / 1", "evener 1 2 / 1",
    "evener 1 / 1 2", "evener 0 / -", "evener - / 0", "evener 1 / 1 ", "even 1 / 1", "evener 1/1", "fewer evener 1 / 1",
    "evener - / - -",
]


def done(*commands):
    """A console behind these commands."""
    console = Console()
    for command in commands:
        console.execute(command)
    return console


def shown(console):
    """All that a console shows of its live day, or None."""
    try:
        return [console.execute(command) for command in READING]
    except NotReady:
        return None


class Answers(unittest.TestCase):
    def assertAnswers(self, console, pairs):
        for command, answer in pairs:
            with self.subTest(command=command):
                self.assertEqual(console.execute(command), answer)

    def test_a_day(self):
        self.assertAnswers(Console(), [
            ("day shortest", "ok"), ("row", "-"), ("plan", "-"), ("comings", "-"), ("waiting", "0"),
            ("come 3", "0"), ("row", "3"), ("over", "0"), ("come 1", "1"), ("come 12", "2"), ("row", "12 2 1"),
            ("over", "1"), ("over", "0"), ("plan", "0 1 0"), ("comings", "0:3 1:1 1:12"), ("waiting", "6"),
            ("back 2", "ok"), ("plan", "0"), ("row", "12 2 1"), ("waiting", "1"),
            ("back 1", "ok"), ("comings", "0:3 1:1"), ("come 2", "2"), ("back 0", "ok"), ("comings", "0:3 1:1 1:2"),
        ])

    def test_a_minute_in_which_nobody_is_there(self):
        self.assertAnswers(Console(), [
            ("day first", "ok"), ("over", "."), ("plan", "."), ("come 1", "0"), ("over", "0"), ("over", "."),
            ("plan", ". 0 ."), ("comings", "1:1"), ("waiting", "1"), ("row", "-"), ("back 2", "ok"), ("row", "1"),
            ("waiting", "0"), ("plan", "."), ("back 2", "ok"), ("plan", "-"), ("comings", "-"),
        ])

    def test_each_rule(self):
        plans = {"shortest": "0 1 0 0 2 2 2 2", "first": "0 0 0 1 2 2 2 2",
                 "longest": "0 2 2 0 2 0 1 2", "turns": "0 1 2 0 2 0 2 2"}
        for name, plan in plans.items():
            console = done(f"day {name}", "come 3", "over", "come 1", "come 4", *["over"] * 7)
            self.assertEqual(console.execute("plan"), plan)

    def test_a_person_of_a_great_work(self):
        great = "9" * 30
        self.assertAnswers(done("day longest"), [
            (f"come {great}", "0"), ("come 1", "1"), ("over", "0"), ("row", "9" * 29 + "8 1"),
            ("comings", f"0:{great} 0:1"), ("waiting", "2"), ("come 1" + "0" * 29, "2"), ("over", "0"),
        ])

    def test_a_new_day_takes_the_place_of_the_old_one(self):
        for name in RULES:
            console = done("day first", "come 3", "over", f"day {name}")
            self.assertEqual(shown(console), ["-", "-", "-", "0"])
            with self.assertRaises(NothingToUndo):
                console.execute("back 1")
        console = done("day shortest", "come 2", "day longest", "come 1", "come 2")
        self.assertEqual(console.execute("over"), "1")

    def test_orders(self):
        self.assertAnswers(Console(), [
            ("fewer 3 1 / 2 2", "yes"), ("fewer 2 2 / 3 1", "no 1"), ("evener 2 2 / 3 1", "yes"),
            ("evener 3 1 / 2 2", "no 1"), ("fewer - / -", "yes"), ("evener - / -", "yes"), ("fewer - / 1", "yes"),
            ("fewer 1 / -", "no 0"), ("evener 1 / -", "no 1"), ("evener - / 1", "yes"),
            ("evener 2 2 2 / 3 2", "no 3"), ("fewer 3 2 / 2 2 2", "yes"), ("fewer 5 / 3 1", "no 0"),
            ("evener " + "9" * 30 + " / 1" + "0" * 29, "no 1"), ("fewer 1" + "0" * 29 + " / " + "9" * 30, "yes"),
        ])

    def test_orders_of_all_small_rows(self):
        console = Console()
        rows = [Row(list(items)) for items in small.all_rows(3, 3)]
        for one, other in product(rows, rows):
            texts = f"{show_row(one)} / {show_row(other)}"
            for word, number in [("fewer", not_fewer(one, other)), ("evener", not_evener(one, other))]:
                answer = "yes" if number is None else f"no {number}"
                self.assertEqual(console.execute(f"{word} {texts}"), answer)

    def test_orders_leave_the_live_day_alone(self):
        console = done("day turns", "come 3", "over")
        kept = shown(console)
        console.execute("fewer 1 / 2")
        console.execute("evener 3 / -")
        self.assertEqual(shown(console), kept)

    def test_it_goes_as_its_live_day(self):
        for name, rule in RULES.items():
            for commands in product(["come 1", "come 2", "over", "back 1"], repeat=5):
                console, live = done(f"day {name}"), LiveDay(rule())
                for command in commands:
                    if command == "back 1" and len(live) == 0:
                        with self.assertRaises(NothingToUndo):
                            console.execute(command)
                    else:
                        self.assertEqual(console.execute(command), answer_of(live, command))
                self.assertEqual(shown(console), shown_of(live))

    def test_two_consoles_do_not_meddle(self):
        one, other = done("day first", "come 3"), done("day first")
        self.assertEqual((one.execute("row"), other.execute("row")), ("3", "-"))
        self.assertIsNone(shown(Console()))


def answer_of(live, command):
    word, *rest = command.split()
    if word == "come":
        return str(live.come(int(rest[0])))
    if word == "over":
        person = live.over()
        return "." if person is None else str(person)
    live.back(count=int(rest[0]))
    return "ok"


def shown_of(live):
    return [show_row(live.row), show_plan(live.plan), show_day(live.comings), str(live.waiting)]


class Refused(unittest.TestCase):
    def test_values_and_strings_that_are_no_commands(self):
        for commands in ([], ["day shortest"], ["day turns", "come 3", "over", "come 1"]):
            console = done(*commands)
            kept = shown(console)
            for command in NO_STRINGS + NO_COMMANDS:
                with self.subTest(command=command), self.assertRaises(InvalidCommand):
                    console.execute(command)
                self.assertEqual(shown(console), kept)

    def test_not_ready_without_a_live_day(self):
        console = Console()
        for command in WITH_A_DAY + WITH_A_DAY:
            with self.subTest(command=command), self.assertRaises(NotReady):
                console.execute(command)
        self.assertEqual(console.execute("fewer - / -"), "yes")
        with self.assertRaises(NotReady):
            console.execute("row")

    def test_nothing_to_undo(self):
        console = done("day first", "come 3", "over")
        kept = shown(console)
        for number in ("3", "100", "9" * 30):
            with self.assertRaises(NothingToUndo):
                console.execute("back " + number)
            self.assertEqual(shown(console), kept)
        self.assertEqual(console.execute("back 2"), "ok")
        with self.assertRaises(NothingToUndo):
            console.execute("back 1")
        self.assertEqual(console.execute("back 0"), "ok")

    def test_a_rule_that_is_none_leaves_the_live_day(self):
        console = done("day longest", "come 2", "come 3")
        with self.assertRaises(InvalidCommand):
            console.execute("day other")
        self.assertEqual(console.execute("over"), "1")


class SameResults(unittest.TestCase):
    def test_reading_changes_nothing(self):
        console = done("day turns", "come 3", "over", "come 1")
        self.assertEqual(shown(console), shown(console))

    def test_each_answer_is_a_string(self):
        console = Console()
        for command in ["day first", "come 2", "over", "back 1", "fewer - / -", "evener 1 / -"] + READING:
            self.assertIs(type(console.execute(command)), str)


if __name__ == "__main__":
    unittest.main()
