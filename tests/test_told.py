"""Promise [18]: rules told back from what was seen; of [2], [3] and [4] what holds of it."""

import unittest
from itertools import product

import small
import small_days
from fewestwait.errors import InvalidDay, InvalidLines, InvalidPlan
from fewestwait.lines import round_choices, shortest_choices
from fewestwait.told import choices_for, rules_for

GREAT = 10 ** 30 - 1
NAMES = ["shortest", "first", "longest", "turns"]


def names_of(day, plan):
    """The names of the rules whose plan this is, by plans written out without the package."""
    return [name for name in NAMES if small_days.rule_plan(name, day) == plan]


class RulesFor(unittest.TestCase):
    def test_ordinary(self):
        day = [(0, 3), (1, 1), (1, 4)]
        self.assertEqual(rules_for(day, [0, 1, 0, 0, 2, 2, 2, 2]), ["shortest"])
        self.assertEqual(rules_for(day, [0, 0, 0, 1, 2, 2, 2, 2]), ["first"])
        self.assertEqual(rules_for(day, [0, 2, 2, 0, 2, 0, 1, 2]), ["longest"])
        self.assertEqual(rules_for(day, [0, 1, 2, 0, 2, 0, 2, 2]), ["turns"])
        self.assertEqual(rules_for(day, [0, 2, 2, 2, 2, 0, 0, 1]), [])

    def test_several_rules_stand_in_the_order_of_the_interface(self):
        self.assertEqual(rules_for([], []), NAMES)
        self.assertEqual(rules_for([(2, 3)], [None, None, 0, 0, 0]), NAMES)
        self.assertEqual(rules_for([(0, 2), (0, 2)], [0, 1, 0, 1]), ["longest", "turns"])
        self.assertEqual(rules_for([(0, 1), (0, 2)], [0, 1, 1]), ["shortest", "first", "turns"])

    def test_plans_that_are_not_just_the_rules_plan(self):
        day = [(1, 2)]
        self.assertEqual(rules_for(day, [None, 0, 0]), NAMES)
        for plan in ([], [None], [None, 0], [None, None], [None, 0, 0, None], [None, None, 0, 0], [None, 0, None, 0]):
            self.assertEqual(rules_for(day, plan), [])
        self.assertEqual(rules_for([], [None]), [])

    def test_all_small_days_and_plans(self):
        for day in small_days.all_days(2, 2, 2):
            last = small_days.last_minute(day)
            for minutes in range(last + 2):
                for plan in small_days.all_plans(day, minutes):
                    self.assertEqual(rules_for(day, plan), names_of(day, plan))

    def test_the_plans_of_the_rules_themselves(self):
        for day in small_days.all_days(3, 3, 3):
            for name in NAMES:
                plan = small_days.rule_plan(name, day)
                self.assertIn(name, rules_for(day, plan))
                self.assertEqual(rules_for(day, plan), names_of(day, plan))

    def test_great_works_and_minutes(self):
        self.assertEqual(rules_for([(0, GREAT)], [0, 0]), [])
        self.assertEqual(rules_for([(GREAT, 1)], [None]), [])
        self.assertEqual(rules_for([(0, GREAT), (GREAT, GREAT)], []), [])

    def test_it_raises_as_check_plan(self):
        for day in small_days.NO_DAYS:
            with self.subTest(day=day), self.assertRaises(InvalidDay):
                rules_for(day, ["no plan"])
        day = [(0, 3), (1, 1)]
        wrong = [([1], 0), ([0, 0, 0, 0], 3), ([0, True], 1), ([False], 0), ([0, "1"], 1), ([0, 2], 1), ([0, -1], 1),
                 ([None, 0.0], 1), ([[]], 0), ([small.EqualToAll()], 0)]
        for plan, at in wrong:
            with self.subTest(plan=plan), self.assertRaises(InvalidPlan) as caught:
                rules_for(day, plan)
            self.assertEqual(caught.exception.at, at)


class ChoicesFor(unittest.TestCase):
    def test_ordinary(self):
        events = ["come", "tick", "come", "come"]
        self.assertEqual(choices_for(2, events, [0, 0, 1]), ["shortest"])
        self.assertEqual(choices_for(2, events, [0, 1, 0]), ["round"])
        self.assertEqual(choices_for(2, events, [1, 0, 1]), [])
        self.assertEqual(choices_for(2, ["come", "come", "tick"], [0, 1]), ["shortest", "round"])

    def test_nobody_and_one_line(self):
        self.assertEqual(choices_for(3, [], []), ["shortest", "round"])
        self.assertEqual(choices_for(3, ["tick"], []), ["shortest", "round"])
        self.assertEqual(choices_for(1, ["come", "tick", "come"], [0, 0]), ["shortest", "round"])

    def test_all_small_runs(self):
        for lines in (1, 2, 3):
            for size in range(6):
                for events in product(["tick", "come"], repeat=size):
                    events = list(events)
                    for choices in product(range(lines), repeat=events.count("come")):
                        choices = list(choices)
                        names = [
                            name
                            for name, rule in [("shortest", shortest_choices), ("round", round_choices)]
                            if rule(lines, events) == choices
                        ]
                        self.assertEqual(choices_for(lines, events, choices), names)

    def test_any_other_value_is_refused(self):
        wrong = [
            None, True, 0, "", "01", (), (0, 1), {}, {0: 1, 1: 0}, range(2), small.EqualToAll(), [], [0], [0, 1, 0],
            [0, 2], [-1, 0], [0, True], [False, 1], [0, 1.0], [0, "1"], [0, None], [[0, 1]], [0, small.EqualToAll()],
        ]
        for choices in wrong:
            with self.subTest(choices=choices), self.assertRaises(InvalidLines):
                choices_for(2, ["come", "tick", "come"], choices)


class CopiesAndSameResults(unittest.TestCase):
    def test_arguments_are_not_changed(self):
        day, plan = [(0, 1), (0, 2)], [0, 1, 1]
        events, choices = ["come", "tick", "come"], [0, 1]
        rules_for(day, plan)
        choices_for(2, events, choices)
        self.assertEqual((day, plan), ([(0, 1), (0, 2)], [0, 1, 1]))
        self.assertEqual((events, choices), (["come", "tick", "come"], [0, 1]))

    def test_what_is_returned_may_be_changed_afterwards(self):
        for call, arguments in [(rules_for, ([], [])), (choices_for, (2, [], []))]:
            first = call(*arguments)
            self.assertIs(type(first), list)
            kept = list(first)
            first.clear()
            self.assertEqual(call(*arguments), kept)


if __name__ == "__main__":
    unittest.main()
