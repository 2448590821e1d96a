"""Promises [2], [3] and [5] over the whole program: what holds of all functions, and of several files together."""

import copy
import unittest
from itertools import product

import small_days
import test_interface
from fewestwait import days, deeds, errors, hands, lines, moves, rows, rules, texts, told, weights
from fewestwait.console import Console
from fewestwait.live import LiveDay
from fewestwait.rows import Row
from fewestwait.rules import First, Longest, Shortest, Turns

GREAT = 10 ** 30 - 1
RULES = {"shortest": Shortest, "first": First, "longest": Longest, "turns": Turns}
DAY, PLAN = [(0, 3), (1, 1), (1, 4)], [0, 0, 1, 2, 2, 0, 2, 2]
EVENTS, CHOICES = ["come", "tick", "come", "come", "tick", "come"], [1, 1, 0, 1]
PEOPLE = [(2, 3), (1, 5), (4, 6)]

# Each function of the interface with arguments.
CALLS = [
    (rows.not_fewer, (Row([3]), Row([2]))),
    (rows.not_evener, (Row([3]), Row([2, 1]))),
    (moves.less_moves, (Row([4, 1]), Row([2, 2, 2]))),
    (moves.even_moves, (Row([2, 2]), Row([5, 1]), 3)),
    (moves.less_moved, (Row([2, 2]), [("pass", 2, 2), ("off", 1)])),
    (moves.even_moved, (Row([4]), [("pass", 4, 0), ("off", 3)], 2)),
    (deeds.work_deed, (Row([3, 2]), ("serve", 1))),
    (deeds.line_deed, (Row([3, 2]), 3, ("join", 3))),
    (deeds.keeps_fewer, (("serve", 1), ("longest",))),
    (deeds.keeps_evener, (3, ("join", 3), ("join", 2))),
    (deeds.breaks_fewer, (("serve", 2), ("serve", 3))),
    (deeds.breaks_evener, (3, ("join", 1), ("join", 2))),
    (days.check_plan, (DAY, PLAN)),
    (days.row_at, (DAY, PLAN, 2)),
    (days.finished, (DAY, PLAN)),
    (days.waiting, (DAY, PLAN)),
    (days.plan_for, (DAY, 4, [2, 0, 1])),
    (days.forbidding, (DAY, 2, [2, 1, 1])),
    (rules.plan_of, (Turns(), DAY)),
    (rules.table, (DAY, PLAN)),
    (rules.is_table, (DAY, PLAN, rules.table(DAY, PLAN))),
    (rules.least_waiting, (DAY,)),
    (rules.least_tails, (DAY, 2)),
    (rules.worse_day, (Longest(),)),
    (weights.cost, (PEOPLE, [2, 0, 1])),
    (weights.exchange_gain, (PEOPLE, [2, 0, 1], 1)),
    (weights.least_cost, (PEOPLE,)),
    (weights.best_order, (PEOPLE,)),
    (weights.best_orders, (PEOPLE,)),
    (hands.least_minutes, ([3, 1, 2], 2)),
    (hands.hands_plan, ([3, 1, 2], 2)),
    (hands.is_hands_plan, ([1, 1, 2], 2, [[0, 2], [1, 2]])),
    (hands.least_sum, ([3, 1, 2], 2)),
    (hands.division, ([3, 1, 2], 2)),
    (hands.division_sum, ([3, 1, 2], [[0], [2, 1]])),
    (hands.two_hands, ()),
    (lines.lengths, (2, EVENTS, CHOICES)),
    (lines.shortest_choices, (2, EVENTS)),
    (lines.round_choices, (2, EVENTS)),
    (lines.common, (2, EVENTS)),
    (lines.lines_table, (2, EVENTS, CHOICES)),
    (lines.stays, (2, EVENTS, CHOICES)),
    (told.rules_for, (DAY, [0, 1, 0, 0, 2, 2, 2, 2])),
    (told.choices_for, (2, EVENTS, [0, 0, 1, 0])),
    (texts.show_row, (Row([3, 1]),)),
    (texts.show_day, (DAY,)),
    (texts.show_plan, ([0, None, 1],)),
    (texts.read_row, ("3 1",)),
    (texts.read_day, ("0:3 1:1",)),
    (texts.read_plan, ("0 . 1",)),
]

# Each call with a truth value where an integer is asked for, and the error that it raises.
TRUTHS = [
    ("InvalidRow", lambda truth: Row([2, truth])),
    ("InvalidMove", lambda truth: moves.less_moved(Row([1]), [("off", truth)])),
    ("InvalidMove", lambda truth: moves.even_moved(Row([3, 1]), [("pass", 3, truth)], 3)),
    ("InvalidDeed", lambda truth: deeds.work_deed(Row([1]), ("serve", truth))),
    ("InvalidDeed", lambda truth: deeds.line_deed(Row([1]), 2, ("join", truth))),
    ("InvalidDeed", lambda truth: deeds.keeps_fewer(("come", truth), ("come", 1))),
    ("InvalidDeed", lambda truth: deeds.breaks_evener(2, ("tick",), ("serve", truth))),
    ("InvalidDay", lambda truth: days.check_plan([(truth, 1)], [])),
    ("InvalidDay", lambda truth: rules.plan_of(Shortest(), [(0, truth)])),
    ("InvalidPlan", lambda truth: days.check_plan([(0, 1), (0, 1)], [truth])),
    ("InvalidPlan", lambda truth: told.rules_for([(0, 1), (0, 1)], [truth])),
    ("InvalidWork", lambda truth: days.plan_for([(0, 1)], 1, [truth])),
    ("InvalidOrder", lambda truth: weights.cost([(1, 1), (1, 1)], [1 - truth, truth])),
    ("InvalidLines", lambda truth: lines.lengths(2, ["come"], [truth])),
    ("InvalidLines", lambda truth: told.choices_for(2, ["come"], [truth])),
    ("InvalidWork", lambda truth: LiveDay(First()).come(truth)),
    ("InvalidText", texts.read_row),
    ("InvalidText", texts.read_day),
    ("InvalidText", texts.read_plan),
    ("InvalidCommand", lambda truth: Console().execute(truth)),
]


def plain(value):
    """The value with Rows and rules written out, so that two of them can be compared part by part, with their kinds."""
    if isinstance(value, (list, tuple)):
        return type(value).__name__, [plain(item) for item in value]
    if isinstance(value, Row):
        return "Row", value.parts
    return type(value).__name__, None if isinstance(value, tuple(RULES.values())) else value


def spoil(value):
    """Change all lists in what was returned."""
    if isinstance(value, (list, tuple)):
        for item in value:
            spoil(item)
    if isinstance(value, Row):
        spoil(value.parts)
    if isinstance(value, list):
        value.append("spoiled")
        value[0] = "spoiled"


def do(live, deed):
    """Do a deed: a work that comes, or None for a minute that is over."""
    if deed is None:
        live.over()
    else:
        live.come(deed)


class AllFunctions(unittest.TestCase):
    def test_each_function_of_the_interface_is_called_here(self):
        called = {(call.__module__.split(".")[1] + ".py", call.__name__) for call, _ in CALLS}
        listed = {(name, one) for name, functions in test_interface.FUNCTIONS.items() for one in functions}
        self.assertEqual(called, listed)

    def test_arguments_are_not_changed(self):
        for call, arguments in CALLS:
            kept = plain(arguments)
            with self.subTest(call.__name__):
                call(*arguments)
                self.assertEqual(plain(arguments), kept)

    def test_the_same_call_returns_the_same_result(self):
        for call, arguments in CALLS:
            with self.subTest(call.__name__):
                first = plain(call(*arguments))
                self.assertEqual(plain(call(*arguments)), first)
                self.assertEqual(plain(call(*copy.deepcopy(arguments))), first)

    def test_what_is_returned_may_be_changed_afterwards(self):
        for call, arguments in CALLS:
            kept = plain(arguments)
            with self.subTest(call.__name__):
                result = call(*arguments)
                first = plain(result)
                spoil(result)
                self.assertEqual(plain(arguments), kept)
                self.assertEqual(plain(call(*arguments)), first)

    def test_truth_values_are_no_integers(self):
        for name, call in TRUTHS:
            for truth in (True, False):
                with self.subTest(name, truth=truth), self.assertRaises(getattr(errors, name)):
                    call(truth)


class Examples(unittest.TestCase):
    def test_the_examples_of_the_interface(self):
        self.assertIs(Row([1, 3]).fewer(Row([2, 2])), True)
        self.assertEqual(moves.less_moves(Row([3, 1]), Row([2, 2])), [("pass", 2, 2)])
        self.assertEqual(rules.plan_of(Shortest(), [(0, 3), (1, 1)]), [0, 1, 0, 0])


class FewestWait(unittest.TestCase):
    """[5] (b), with the files of days, rules, live days and moves together."""

    def test_a_live_day_under_shortest_has_fewer_left_than_under_all_other_rules(self):
        for sequence in product([None, 1, 3], repeat=6):
            shortest, *others = [LiveDay(rule()) for rule in RULES.values()]
            for deed in sequence + (None,) * 6:
                for live in (shortest, *others):
                    do(live, deed)
                for other in others:
                    self.assertTrue(shortest.row.fewer(other.row))
                    self.assertLessEqual(len(shortest.row), len(other.row))
                    self.assertLessEqual(shortest.waiting, other.waiting)

    def test_the_waiting_of_shortest_is_the_least(self):
        for day in small_days.all_days(3, 2, 3):
            sums = {name: days.waiting(day, rules.plan_of(rule(), day)) for name, rule in RULES.items()}
            self.assertEqual(rules.least_waiting(day), sums["shortest"])
            self.assertEqual(min(sums.values()), sums["shortest"])

    def test_moves_lead_from_each_row_of_a_table_to_that_under_shortest(self):
        for one, other in rules.table([(0, 3), (0, 2), (1, 1), (1, 3)], [0, 0, 3, 0, 3, 1, 3, 1, 2]):
            self.assertEqual(moves.less_moved(other, moves.less_moves(one, other)), one)

    def test_what_can_be_done_is_what_some_plan_does(self):
        day = [(0, 2), (1, 2), (2, 1)]
        for done in product(range(3), range(3), range(2)):
            plan = days.plan_for(day, 3, list(done))
            self.assertIs(plan is None, days.forbidding(day, 3, list(done)) is not None)
            if plan is not None:
                days.check_plan(day, plan)
                self.assertEqual([plan.count(person) for person in range(3)], list(done))


class Followed(unittest.TestCase):
    """[5] (g), with the files of live days, texts, the console and what is told back together."""

    def test_a_live_day_is_told_back_by_its_texts(self):
        for name in RULES:
            for sequence in product([None, 1, 2], repeat=5):
                console = Console()
                console.execute(f"day {name}")
                for deed in sequence:
                    console.execute("over" if deed is None else f"come {deed}")
                while console.execute("row") != "-":
                    console.execute("over")
                day = texts.read_day(console.execute("comings"))
                plan = texts.read_plan(console.execute("plan"))
                days.check_plan(day, plan)
                while plan and plan[-1] is None:
                    plan.pop()
                self.assertIn(name, told.rules_for(day, plan))
                self.assertEqual(console.execute("waiting"), str(days.waiting(day, plan)))

    def test_great_numbers(self):
        live = LiveDay(Shortest())
        live.come(GREAT)
        live.over()
        live.come(GREAT - 2)
        live.over()
        self.assertEqual(live.plan, [0, 1])
        self.assertEqual(texts.show_row(live.row), "9" * 29 + "8 " + "9" * 29 + "6")
        self.assertEqual(days.row_at(live.comings, live.plan, 2), live.row)
        self.assertEqual(rules.least_tails(live.comings, 2), [2 * GREAT - 4, GREAT - 3, 0])


if __name__ == "__main__":
    unittest.main()
