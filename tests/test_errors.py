"""Promise [4]: the errors of the package."""

import unittest

from fewestwait import errors
from fewestwait.console import Console
from fewestwait.days import check_plan, finished, forbidding, plan_for, row_at, waiting
from fewestwait.deeds import breaks_evener, breaks_fewer, keeps_evener, keeps_fewer, line_deed, work_deed
from fewestwait.lines import lengths, lines_table, stays
from fewestwait.live import LiveDay
from fewestwait.moves import even_moved, even_moves, less_moved, less_moves
from fewestwait.rows import Row
from fewestwait.rules import Shortest, is_table, least_tails, least_waiting, plan_of, table
from fewestwait.texts import read_day, read_plan, read_row
from fewestwait.told import choices_for, rules_for
from fewestwait.weights import cost, exchange_gain

ONE_TEXT = [
    "InvalidRow", "InvalidMove", "InvalidDeed", "InvalidDay", "InvalidWork", "InvalidOrder", "InvalidLines",
    "NotFewer", "NotEvener", "NothingToUndo", "InvalidText", "InvalidCommand", "NotReady",
]


class ErrorClasses(unittest.TestCase):
    def test_day_error_is_directly_under_value_error(self):
        self.assertEqual(errors.DayError.__bases__, (ValueError,))

    def test_each_error_is_directly_under_day_error(self):
        for name in ONE_TEXT + ["InvalidPlan"]:
            with self.subTest(name):
                self.assertEqual(getattr(errors, name).__bases__, (errors.DayError,))

    def test_there_are_no_other_errors(self):
        found = [name for name, value in vars(errors).items() if isinstance(value, type)]
        self.assertEqual(sorted(found), sorted(ONE_TEXT + ["InvalidPlan", "DayError"]))

    def test_each_error_is_created_with_one_text(self):
        for name in ONE_TEXT:
            with self.subTest(name):
                error = getattr(errors, name)("because")
                self.assertEqual(str(error), "because")
                self.assertEqual(error.args, ("because",))

    def test_invalid_plan_keeps_its_field(self):
        for at in (0, 7, 10 ** 30):
            self.assertEqual(errors.InvalidPlan(at).at, at)

    def test_errors_can_be_caught_as_day_error_and_as_value_error(self):
        for caught in (errors.DayError, ValueError):
            with self.assertRaises(caught):
                Row(["no"])


class WhatIsRaised(unittest.TestCase):
    """Each call raises just the class that the interface names, with one text."""

    def assertFails(self, name, call, *arguments):
        with self.assertRaises(errors.DayError) as caught:
            call(*arguments)
        self.assertIs(type(caught.exception), getattr(errors, name))
        self.assertEqual(len(caught.exception.args), 1)
        self.assertIsInstance(caught.exception.args[0], str)

    def test_classes(self):
        small, great = Row([1]), Row([2])
        self.assertFails("InvalidRow", Row, [0])
        self.assertFails("NotFewer", less_moves, great, small)
        self.assertFails("NotEvener", even_moves, great, small, 1)
        self.assertFails("InvalidLines", even_moves, small, Row([1, 1]), 1)
        self.assertFails("InvalidMove", less_moved, small, [("off", 2)])
        self.assertFails("InvalidMove", even_moved, small, [("off", 2)], 1)
        self.assertFails("InvalidLines", even_moved, Row([1, 1]), [], 1)

    def test_classes_of_deeds(self):
        for deed in [("join", 0), ("come", 0), "serve"]:
            self.assertFails("InvalidDeed", work_deed, Row([1]), deed)
            self.assertFails("InvalidDeed", line_deed, Row([1]), 1, deed)
            for call in (keeps_fewer, breaks_fewer):
                self.assertFails("InvalidDeed", call, deed, ("longest",))
                self.assertFails("InvalidDeed", call, ("longest",), deed)
            for call in (keeps_evener, breaks_evener):
                self.assertFails("InvalidDeed", call, 2, deed, ("tick",))
                self.assertFails("InvalidDeed", call, 2, ("tick",), deed)
        self.assertFails("InvalidLines", line_deed, Row([1, 1]), 1, ("tick",))

    def test_classes_of_days_and_rules(self):
        day, no_day, no_plan = [(0, 1)], [(0, 0)], [0, 0]
        for call in (check_plan, finished, waiting, table):
            self.assertFails("InvalidDay", call, no_day, no_plan)
            self.assertFails("InvalidPlan", call, day, no_plan)
        for call, last in [(row_at, 0), (is_table, [])]:
            self.assertFails("InvalidDay", call, no_day, no_plan, last)
            self.assertFails("InvalidPlan", call, day, no_plan, last)
        for call in (plan_for, forbidding):
            self.assertFails("InvalidDay", call, no_day, 1, [2])
            self.assertFails("InvalidWork", call, day, 1, [2])
        self.assertFails("InvalidPlan", waiting, day, [])
        self.assertFails("InvalidDay", plan_of, Shortest(), no_day)
        self.assertFails("InvalidDay", least_waiting, no_day)
        self.assertFails("InvalidDay", least_tails, no_day, 0)

    def test_classes_of_weights_and_lines(self):
        self.assertFails("InvalidOrder", cost, [(1, 1)], [1])
        self.assertFails("InvalidOrder", exchange_gain, [(1, 1), (1, 1)], [1, 1], 0)
        for call in (lengths, lines_table, stays):
            self.assertFails("InvalidLines", call, 2, ["come", "tick"], [2])
            self.assertFails("InvalidLines", call, 2, ["come", "tick"], [])

    def test_classes_of_what_is_told_and_of_live_days(self):
        self.assertFails("InvalidDay", rules_for, [(0, 0)], [0, 0])
        self.assertFails("InvalidPlan", rules_for, [(0, 1)], [0, 0])
        self.assertFails("InvalidLines", choices_for, 2, ["come"], [2])
        day = LiveDay(Shortest())
        self.assertFails("InvalidWork", day.come, 0)
        self.assertFails("NothingToUndo", day.back)
        self.assertFails("NothingToUndo", lambda: day.back(count=2))

    def test_classes_of_texts_and_of_the_console(self):
        for call in (read_row, read_day, read_plan):
            self.assertFails("InvalidText", call, "")
            self.assertFails("InvalidText", call, None)
        console = Console()
        for command in (None, "", "come 0", "day other", "fewer 1 / 1 2"):
            self.assertFails("InvalidCommand", console.execute, command)
        for command in ("come 1", "over", "back 0", "row", "plan", "comings", "waiting"):
            self.assertFails("NotReady", console.execute, command)
        console.execute("day first")
        self.assertFails("NothingToUndo", console.execute, "back 1")

    def test_invalid_command_comes_ahead_of_not_ready_and_of_all_errors_of_the_methods(self):
        console = Console()
        self.assertFails("InvalidCommand", console.execute, "come 0")
        self.assertFails("InvalidCommand", console.execute, "back -1")
        self.assertFails("InvalidCommand", console.execute, "row 1")
        self.assertFails("NotReady", console.execute, "back 1")
        console.execute("day first")
        self.assertFails("InvalidCommand", console.execute, "come 0")
        self.assertFails("InvalidCommand", console.execute, "back 01")

    def test_invalid_lines_comes_ahead_of_invalid_deed(self):
        self.assertFails("InvalidLines", line_deed, Row([1, 1]), 1, "no deed")

    def test_invalid_day_comes_ahead_of_invalid_plan_and_invalid_work(self):
        self.assertFails("InvalidDay", check_plan, "no day", [7])
        self.assertFails("InvalidDay", plan_for, "no day", 0, "no amounts")

    def test_invalid_lines_comes_ahead_of_invalid_move(self):
        self.assertFails("InvalidLines", even_moved, Row([1, 1]), ["no move"], 1)

    def test_invalid_lines_comes_ahead_of_not_evener(self):
        self.assertFails("InvalidLines", even_moves, Row([5, 5]), Row([1]), 1)
        self.assertFails("InvalidLines", even_moves, Row([9]), Row([1, 1]), 1)

    def test_a_call_that_raises_changes_nothing(self):
        row, other = Row([3, 2, 2]), Row([1])
        moves = [("off", 3), ("pass", 2, 2), ("pass", 7, 7)]
        items = [2, 0]
        self.assertFails("InvalidMove", less_moved, row, moves)
        self.assertFails("InvalidMove", even_moved, row, moves, 3)
        self.assertFails("NotFewer", less_moves, row, other)
        self.assertFails("NotEvener", even_moves, row, other, 3)
        self.assertFails("InvalidLines", even_moves, row, other, 2)
        self.assertFails("InvalidRow", Row, items)
        self.assertEqual(row.parts, [3, 2, 2])
        self.assertEqual(other.parts, [1])
        self.assertEqual(moves, [("off", 3), ("pass", 2, 2), ("pass", 7, 7)])
        self.assertEqual(items, [2, 0])


if __name__ == "__main__":
    unittest.main()
