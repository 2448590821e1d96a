"""Promises [12], [13] and, of [5] (b), that Shortest keeps the fewest people waiting; of [2] what holds of rules."""

import unittest

import small
import small_days
from fewestwait.days import check_plan, plan_for, row_at, waiting
from fewestwait.errors import InvalidDay, InvalidPlan
from fewestwait.rows import Row
from fewestwait.rules import (
    First, Longest, Shortest, Turns, is_table, least_tails, least_waiting, plan_of, table, worse_day,
)

GREAT = 10 ** 30 - 1
CLASSES = {"shortest": Shortest, "first": First, "longest": Longest, "turns": Turns}

# Equal works, comings in one minute, minutes with nobody, and work left from earlier comings.
DAYS = small_days.all_days(3, 3, 3)


def plans(day):
    """The plans of the four rules, in the order of CLASSES."""
    return [plan_of(rule(), day) for rule in CLASSES.values()]


def rows_of(day, plan, last):
    """The rows at all minutes up to the last one, written out without the package."""
    lefts = [small_days.left_behind(day, plan[:minute]) for minute in range(last + 1)]
    return [Row(small_days.row(day, left, minute)) for minute, left in enumerate(lefts)]


def table_of(day, plan):
    shortest = small_days.rule_plan("shortest", day)
    last = max(len(shortest), len(plan))
    return list(zip(rows_of(day, shortest, last), rows_of(day, plan, last)))


class Rules(unittest.TestCase):
    def test_equal_exactly_if_of_one_class(self):
        for name, one in CLASSES.items():
            for other_name, other in CLASSES.items():
                self.assertIs(one() == other(), name == other_name)
                self.assertIs(one() != other(), name != other_name)

    def test_other_values_are_not_equal(self):
        for name, rule in CLASSES.items():
            for value in (None, True, 0, name, rule, (), [], [rule()], object(), Row([])):
                self.assertIs(rule() == value, False)
                self.assertIs(rule() != value, True)
                self.assertIs(value == rule(), False)


class PlanOf(unittest.TestCase):
    def test_the_example_of_the_interface(self):
        self.assertEqual(plan_of(Shortest(), [(0, 3), (1, 1)]), [0, 1, 0, 0])

    def test_each_rule(self):
        day = [(0, 3), (1, 1), (1, 4)]
        self.assertEqual(plan_of(Shortest(), day), [0, 1, 0, 0, 2, 2, 2, 2])
        self.assertEqual(plan_of(First(), day), [0, 0, 0, 1, 2, 2, 2, 2])
        self.assertEqual(plan_of(Longest(), day), [0, 2, 2, 0, 2, 0, 1, 2])
        self.assertEqual(plan_of(Turns(), day), [0, 1, 2, 0, 2, 0, 2, 2])

    def test_equal_works(self):
        day = [(0, 2), (0, 2), (0, 2)]
        self.assertEqual(plan_of(Shortest(), day), [0, 0, 1, 1, 2, 2])
        self.assertEqual(plan_of(First(), day), [0, 0, 1, 1, 2, 2])
        self.assertEqual(plan_of(Longest(), day), [0, 1, 2, 0, 1, 2])
        self.assertEqual(plan_of(Turns(), day), [0, 1, 2, 0, 1, 2])

    def test_work_that_is_left_counts_and_not_the_work_at_the_coming(self):
        self.assertEqual(plan_of(Shortest(), [(0, 4), (2, 3)]), [0, 0, 0, 0, 1, 1, 1])
        self.assertEqual(plan_of(Longest(), [(0, 4), (2, 3)]), [0, 0, 1, 0, 1, 0, 1])

    def test_minutes_with_nobody(self):
        for plan in plans([(2, 1), (5, 1)]):
            self.assertEqual(plan, [None, None, 0, None, None, 1])

    def test_turns_go_on_behind_minutes_with_nobody(self):
        self.assertEqual(plan_of(Turns(), [(0, 1), (3, 2), (3, 2)]), [0, None, None, 1, 2, 1, 2])
        self.assertEqual(plan_of(Turns(), [(0, 1), (0, 1), (3, 1), (3, 1)]), [0, 1, None, 2, 3])

    def test_turns_serve_the_same_one_again_if_alone(self):
        self.assertEqual(plan_of(Turns(), [(0, 3), (2, 2)]), [0, 0, 1, 0, 1])
        self.assertEqual(plan_of(Turns(), [(0, 2), (0, 1), (3, 2), (5, 1)]), [0, 1, 0, 2, 2, 3])

    def test_turns_do_not_go_back_for_somebody_who_comes(self):
        self.assertEqual(plan_of(Turns(), [(0, 3), (1, 2), (2, 1)]), [0, 1, 2, 0, 1, 0])

    def test_nobody(self):
        for plan in plans([]):
            self.assertEqual(plan, [])

    def test_all_small_days(self):
        for day in DAYS:
            for name, rule in CLASSES.items():
                plan = plan_of(rule(), day)
                self.assertEqual(plan, small_days.rule_plan(name, day), (name, day))
                self.assertIs(type(plan), list)

    def test_plans_are_complete_and_end_with_somebody(self):
        for day in DAYS:
            for plan in plans(day):
                self.assertIsNone(small_days.first_wrong(day, plan))
                self.assertFalse(any(small_days.left_behind(day, plan)))
                self.assertTrue(not plan or plan[-1] is not None)

    def test_a_day_beyond_the_limits(self):
        day = [(10 * k, 101 + k % 3) for k in range(33)] + [(5000, 7)]
        for name, rule in CLASSES.items():
            self.assertEqual(plan_of(rule(), day), small_days.rule_plan(name, day))

    def test_any_other_value_is_no_day(self):
        for day in small_days.NO_DAYS:
            for rule in CLASSES.values():
                with self.subTest(day=day), self.assertRaises(InvalidDay):
                    plan_of(rule(), day)


class TheFewestWait(unittest.TestCase):
    def test_shortest_has_fewer_left_than_any_plan_at_each_minute(self):
        for day in DAYS:
            plan = plan_of(Shortest(), day)
            last = small_days.last_minute(day)
            for minute, lefts in enumerate(small_days.all_lefts(day, last)):
                row = row_at(day, plan, minute)
                for left in lefts:
                    self.check(row, Row(small_days.row(day, left, minute)))

    def check(self, row, other):
        self.assertIsNone(small.first_greater(row.parts, other.parts, small.tail))
        self.assertTrue(row.fewer(other))
        self.assertLessEqual(len(row), len(other))

    def test_what_can_be_done_by_a_minute_has_no_fewer_left(self):
        day = [(0, 5), (1, 2), (3, 2)]
        plan = plan_of(Shortest(), day)
        for minute in range(10):
            for done in [[a, b, c] for a in range(6) for b in range(3) for c in range(3)]:
                other = plan_for(day, minute, done)
                if other is not None:
                    self.check(row_at(day, plan, minute), row_at(day, other, minute))


class LeastWaiting(unittest.TestCase):
    def test_examples(self):
        self.assertEqual(least_waiting([]), 0)
        self.assertEqual(least_waiting([(4, 3)]), 3)
        self.assertEqual(least_waiting([(0, 3), (1, 1)]), 5)
        self.assertEqual(least_waiting([(0, 2), (0, 2), (0, 1)]), 9)

    def test_the_least_of_all_plans_of_small_days(self):
        for day in DAYS:
            self.assertEqual(least_waiting(day), small_days.least_waiting(day), day)

    def test_the_waiting_of_shortest(self):
        for day in DAYS + [[(7 * k, 100 - k) for k in range(30)], [(300, 100)] * 30, [(20 * k, 5) for k in range(20)]]:
            self.assertEqual(least_waiting(day), waiting(day, plan_of(Shortest(), day)))

    def test_numbers_of_30_digits(self):
        self.assertEqual(least_waiting([(5, GREAT)]), GREAT)
        self.assertEqual(least_waiting([(0, 1), (GREAT, GREAT), (GREAT, 1)]), GREAT + 3)

    def test_any_other_value_is_no_day(self):
        for day in small_days.NO_DAYS:
            with self.subTest(day=day), self.assertRaises(InvalidDay):
                least_waiting(day)


class LeastTails(unittest.TestCase):
    def test_examples(self):
        day = [(0, 3), (1, 1)]
        found = [least_tails(day, minute) for minute in range(6)]
        self.assertEqual(found, [[3, 0], [3, 1, 0], [2, 0], [1, 0], [0], [0]])
        self.assertEqual(least_tails([], 0), [0])
        self.assertEqual(least_tails([(2, 1)], 1), [0])

    def test_the_tails_of_the_row_under_shortest(self):
        for day in DAYS:
            plan = small_days.rule_plan("shortest", day)
            for minute in range(small_days.last_minute(day) + 2):
                left = small_days.left_behind(day, plan[:minute])
                row = small_days.row(day, left, minute)
                tails = [small.tail(row, k) for k in range(len(row) + 1)]
                self.assertEqual(least_tails(day, minute), tails, (day, minute))

    def test_days_at_the_limit(self):
        for day in ([(7 * k, 100 - k) for k in range(30)], [(300, 100)] * 30, [(10 * k, 3 * k + 1) for k in range(30)]):
            plan = plan_of(Shortest(), day)
            for minute in range(0, 301, 12):
                row = row_at(day, plan, minute)
                self.assertEqual(least_tails(day, minute), [row.tail(k) for k in range(len(row) + 1)])

    def test_numbers_of_30_digits(self):
        day = [(0, 2), (3, GREAT), (GREAT, 5)]
        self.assertEqual(least_tails(day, GREAT - 1), [4, 0])
        self.assertEqual(least_tails(day, GREAT), [8, 3, 0])
        self.assertEqual(least_tails(day, GREAT + 3), [5, 0])
        self.assertEqual(least_tails(day, 2 * GREAT), [0])

    def test_any_other_value_is_no_day(self):
        for day in small_days.NO_DAYS:
            with self.subTest(day=day), self.assertRaises(InvalidDay):
                least_tails(day, 0)


class WorseDay(unittest.TestCase):
    def test_none_for_shortest(self):
        self.assertIsNone(worse_day(Shortest()))

    def test_more_people_are_there_within_the_limits(self):
        for name in ("first", "longest", "turns"):
            found = worse_day(CLASSES[name]())
            self.assertIs(type(found), tuple)
            day, minute = found
            self.assertIsNone(check_plan(day, []))
            self.assertLessEqual(len(day), 20)
            self.assertTrue(all(work <= 60 and came <= 200 for came, work in day))
            self.assertTrue(0 <= minute <= 200)
            people = [self.people(day, small_days.rule_plan(rule, day), minute) for rule in (name, "shortest")]
            self.assertGreater(*people)
            mine = [len(row_at(day, plan_of(rule, day), minute)) for rule in (CLASSES[name](), Shortest())]
            self.assertEqual(mine, people)

    def people(self, day, plan, minute):
        return len(small_days.row(day, small_days.left_behind(day, plan[:minute]), minute))

    def test_what_is_returned_may_be_changed_afterwards(self):
        for rule in (First(), Longest(), Turns()):
            day, minute = worse_day(rule)
            kept = list(day)
            day.clear()
            self.assertEqual(worse_day(rule), (kept, minute))


class Tables(unittest.TestCase):
    def test_an_example(self):
        day = [(0, 3), (1, 1)]
        expected = [([3], [3]), ([2, 1], [2, 1]), ([2], [1, 1]), ([1], [1]), ([], [])]
        found = table(day, [0, 0, 0, 1])
        self.assertEqual([(one.parts, other.parts) for one, other in found], expected)
        self.assertIs(type(found), list)
        self.assertEqual({(type(item), type(item[0]), type(item[1])) for item in found}, {(tuple, Row, Row)})

    def test_it_goes_to_the_end_of_the_longer_plan(self):
        day = [(0, 2), (1, 1)]
        self.assertEqual(table(day, []), table_of(day, []))
        self.assertEqual(len(table(day, [])), 4)
        self.assertEqual(len(table(day, [None] * 6)), 7)
        self.assertEqual(table(day, [None] * 6)[6], (Row([]), Row([2, 1])))
        self.assertEqual(table([], []), [(Row([]), Row([]))])
        self.assertEqual(table([], [None]), [(Row([]), Row([]))] * 2)

    def test_all_small_plans(self):
        for day in small_days.all_days(2, 2, 2):
            for plan in small_days.all_plans(day, 3) + small_days.all_plans(day, 1) + plans(day):
                found = table(day, plan)
                self.assertEqual(found, table_of(day, plan))
                self.assertIs(is_table(day, plan, found), True)

    def test_a_day_at_the_limit(self):
        day = [(10 * k, 100) for k in range(30)]
        plan = plan_of(Turns(), day)[:400]
        found = table(day, plan)
        self.assertEqual(len(found), 3001)
        self.assertTrue(is_table(day, plan, found))

    def test_other_lists_are_no_tables(self):
        day, plan = [(0, 3), (1, 1)], [0, 0, 0, 1]
        found = table(day, plan)
        empty = (Row([]), Row([]))
        wrong = [
            [], found[:-1], found[1:], found + [empty], [empty] + found, found + found, found[::-1], [empty] * 5,
            [(other, one) for one, other in found],
            [(one, one) for one, _ in found],
            [(other, other) for _, other in found],
            found[:2] + [(Row([1, 1]), Row([2]))] + found[3:],
            found[:2] + [(Row([2]), Row([2]))] + found[3:],
            found[:4] + [(Row([]), Row([1]))],
        ]
        for number, items in enumerate(wrong):
            with self.subTest(number):
                self.assertIs(is_table(day, plan, items), False)

    def test_a_table_of_another_plan_or_day_is_none(self):
        day, plan = [(0, 2), (0, 2)], [0, 0, 1, 1]
        for other in small_days.all_plans(day, 4):
            for items in (table(day, other), table_of([(0, 2), (1, 2)], [0, 0, 1, 1])):
                self.assertIs(is_table(day, plan, items), items == table_of(day, plan))

    def test_days_of_great_works_and_minutes(self):
        for day in ([(0, GREAT)], [(GREAT, 1)], [(0, 1), (GREAT, GREAT)]):
            for plan in ([], [None]):
                for items in ([], [(Row([]), Row([]))], [(Row([GREAT]), Row([GREAT]))] * 2):
                    self.assertIs(is_table(day, plan, items), False)

    def test_rows_that_are_made_anew_are_a_table_too(self):
        day, plan = [(0, 3), (1, 1)], [0, 0, 0, 1]
        items = [(Row(one.parts[::-1]), Row(other.parts)) for one, other in table(day, plan)]
        self.assertIs(is_table(day, plan, items), True)

    def test_errors(self):
        calls = [table, lambda day, plan: is_table(day, plan, []), lambda day, plan: is_table(day, plan, [Row([])])]
        for call in calls:
            for day in small_days.NO_DAYS:
                with self.subTest(day=day), self.assertRaises(InvalidDay):
                    call(day, ["no plan"])
            for plan, at in [([1], 0), ([0, True], 1), ([0, None, 0, 1, 0, 1], 5), ([0, "1"], 1), ([0, 2], 1)]:
                with self.assertRaises(InvalidPlan) as caught:
                    call([(0, 3), (1, 1)], plan)
                self.assertEqual(caught.exception.at, at)


class CopiesAndSameResults(unittest.TestCase):
    def test_a_rule_keeps_nothing_of_a_day(self):
        days = [[(0, 2), (0, 3), (2, 1)], [(1, 1)], [(0, 2), (0, 3), (2, 1)]]
        for name, rule in CLASSES.items():
            one = rule()
            for day in days:
                self.assertEqual(plan_of(one, day), small_days.rule_plan(name, day))

    def test_arguments_are_not_changed(self):
        day, plan = [(0, 3), (1, 1)], [0, 0, 0, 1]
        items = table(day, plan)
        kept = list(items)
        is_table(day, plan, items)
        plans(day)
        least_waiting(day)
        least_tails(day, 2)
        self.assertEqual((day, plan, items), ([(0, 3), (1, 1)], [0, 0, 0, 1], kept))

    def test_what_is_returned_may_be_changed_afterwards(self):
        day = [(0, 3), (1, 1)]
        for call, arguments in [(plan_of, (Turns(), day)), (table, (day, [0])), (least_tails, (day, 1))]:
            first = call(*arguments)
            kept = list(first)
            first.append(None)
            first[0] = None
            self.assertEqual(call(*arguments), kept)
        self.assertEqual(day, [(0, 3), (1, 1)])


if __name__ == "__main__":
    unittest.main()
