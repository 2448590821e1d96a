"""Promises [11] and, of [5] (b), what can be done by a minute; of [2], [3] and [4] what holds of days."""

import unittest
from itertools import product

import small
import small_days
from fewestwait.days import check_plan, finished, forbidding, plan_for, row_at, waiting
from fewestwait.errors import InvalidDay, InvalidPlan, InvalidWork
from fewestwait.rows import Row

GREAT = 10 ** 30 - 1

# No one of them is None or a number of one of two people.
NOBODY = [True, False, -1, 2, 3, GREAT, -GREAT, 0.0, 1.0, "0", "", ".", b"0", [], [0], (), (0,), {}, object(),
          small.EqualToAll(), Row([1])]

# Each with a day ahead of all other arguments.
CALLS = [
    lambda day: check_plan(day, []),
    lambda day: check_plan(day, [7, "no plan"]),
    lambda day: row_at(day, [], 0),
    lambda day: row_at(day, ["no plan"], 3),
    lambda day: finished(day, []),
    lambda day: finished(day, [True]),
    lambda day: waiting(day, []),
    lambda day: waiting(day, [7]),
    lambda day: plan_for(day, 2, [0]),
    lambda day: plan_for(day, 0, "no amounts"),
    lambda day: forbidding(day, 2, [0]),
    lambda day: forbidding(day, 0, None),
]
PLAN_CALLS = [
    check_plan,
    lambda day, plan: row_at(day, plan, 0),
    lambda day, plan: row_at(day, plan, 9),
    finished,
    waiting,
]


class InvalidDays(unittest.TestCase):
    def test_any_other_value_is_refused_ahead_of_all_other_errors(self):
        for day in small_days.NO_DAYS:
            for number, call in enumerate(CALLS):
                with self.subTest(day=day, call=number), self.assertRaises(InvalidDay):
                    call(day)

    def test_days(self):
        for day in ([], [(0, 1)], [(0, 1), (0, 1)], [(5, 2), (5, 1), (9, 7)], [(GREAT, GREAT), (GREAT, 1)]):
            self.assertIsNone(check_plan(day, []))


class CheckPlan(unittest.TestCase):
    def assertWrong(self, day, plan, at):
        for number, call in enumerate(PLAN_CALLS):
            with self.subTest(day=day, plan=plan, call=number), self.assertRaises(InvalidPlan) as caught:
                call(day, plan)
            self.assertEqual(caught.exception.at, at)

    def test_nothing_is_returned(self):
        self.assertIsNone(check_plan([(0, 3), (1, 1)], [0, 1, 0, 0]))
        self.assertIsNone(check_plan([], []))
        self.assertIsNone(check_plan([], [None, None]))
        self.assertIsNone(check_plan([(1, 1)], [None, None, 0, None]))

    def test_ahead_of_the_coming(self):
        self.assertWrong([(0, 3), (2, 1)], [0, 1], 1)
        self.assertWrong([(1, 1)], [0], 0)
        self.assertIsNone(check_plan([(0, 3), (2, 1)], [0, 0, 1]))

    def test_behind_the_end_of_the_work(self):
        self.assertWrong([(0, 1)], [0, 0], 1)
        self.assertWrong([(0, 2), (0, 1)], [0, None, 0, 1, 0], 4)

    def test_items_that_are_nobody(self):
        for item in NOBODY:
            self.assertWrong([(0, 2), (0, 2)], [item], 0)
            self.assertWrong([(0, 2), (0, 2)], [1, None, item], 2)
            self.assertWrong([(0, 2), (0, 2)], [1, item, "no number", 7], 1)
        self.assertWrong([], [0], 0)
        self.assertWrong([], [None, None, -1], 2)

    def test_the_first_wrong_minute(self):
        self.assertWrong([(0, 1), (3, 1)], [0, 0, 1], 1)
        self.assertWrong([(0, 1), (3, 1)], [None, 1, 0], 1)

    def test_the_last_place_is_not_reached_from_behind(self):
        self.assertWrong([(0, 1), (0, 1)], [0, -1], 1)

    def test_all_small_lists(self):
        for day in small_days.all_days(2, 2, 2):
            for items in product([None, 0, 1, 2], repeat=4):
                wrong = small_days.first_wrong(day, list(items))
                if wrong is None:
                    self.assertIsNone(check_plan(day, list(items)))
                    continue
                with self.assertRaises(InvalidPlan) as caught:
                    check_plan(day, list(items))
                self.assertEqual(caught.exception.at, wrong)

    def test_numbers_of_30_digits(self):
        day = [(0, GREAT), (2, GREAT), (GREAT, 1)]
        self.assertIsNone(check_plan(day, [0, 0, 1, 0]))
        self.assertWrong(day, [0, 2], 1)
        self.assertWrong(day, [0, 1], 1)
        self.assertEqual(row_at(day, [0, 0, 1, 0], 4), Row([GREAT - 3, GREAT - 1]))
        self.assertEqual(row_at(day, [0, 0, 1, 0], GREAT), Row([GREAT - 3, GREAT - 1, 1]))
        self.assertEqual(row_at(day, [0, 0, 1, 0], GREAT - 1), Row([GREAT - 3, GREAT - 1]))
        self.assertEqual(finished(day, [0]), [None, None, None])

    def test_limits_are_not_checked(self):
        day = [(0, 101)] * 31 + [(301, 150)]
        plan = [person for person in range(31) for _ in range(101)] + [31] * 150
        self.assertIsNone(check_plan(day, plan))
        self.assertEqual(finished(day, plan)[30:], [31 * 101 - 1, 31 * 101 + 149])
        self.assertEqual(len(row_at(day, plan, 301)), 30)
        self.assertEqual(waiting(day, plan), sum(range(101, 31 * 101 + 1, 101)) + 31 * 101 + 150 - 301)


class RowAt(unittest.TestCase):
    def test_who_comes_in_the_minute_is_included(self):
        day, plan = [(0, 3), (1, 1)], [0, 1, 0, 0]
        rows = [row_at(day, plan, minute).parts for minute in range(6)]
        self.assertEqual(rows, [[3], [2, 1], [2], [1], [], []])

    def test_behind_the_end_of_the_plan_nobody_is_served(self):
        day, plan = [(0, 3), (1, 1), (7, 5)], [0]
        rows = [row_at(day, plan, minute).parts for minute in (1, 2, 6, 7, 300)]
        self.assertEqual(rows, [[2, 1], [2, 1], [2, 1], [5, 2, 1], [5, 2, 1]])

    def test_nobody(self):
        self.assertEqual(row_at([], [], 0), Row([]))
        self.assertEqual(row_at([], [None], 5), Row([]))
        self.assertEqual(row_at([(2, 1)], [], 1), Row([]))
        self.assertIs(type(row_at([], [], 0)), Row)

    def test_the_whole_plan_is_checked(self):
        with self.assertRaises(InvalidPlan) as caught:
            row_at([(0, 1)], [0, None, 0], 1)
        self.assertEqual(caught.exception.at, 2)

    def test_all_small_plans(self):
        for day in small_days.all_days(2, 2, 2) + small_days.all_days(3, 1, 2)[-20:]:
            for plan in small_days.all_plans(day, 4):
                for minute in range(7):
                    left = small_days.left_behind(day, plan[:minute])
                    self.assertEqual(row_at(day, plan, minute).parts, small_days.row(day, left, minute))


class FinishedAndWaiting(unittest.TestCase):
    def test_finished(self):
        day = [(0, 3), (1, 1)]
        self.assertEqual(finished(day, [0, 1, 0, 0]), [3, 1])
        self.assertEqual(finished(day, [0, 0, 1, None, 0, None]), [4, 2])
        self.assertEqual(finished(day, [0, 1, 0]), [None, 1])
        self.assertEqual(finished(day, []), [None, None])
        self.assertEqual(finished([], [None]), [])

    def test_waiting_counts_the_first_and_the_last_minute(self):
        self.assertEqual(waiting([(0, 1)], [0]), 1)
        self.assertEqual(waiting([(0, 1)], [None, None, 0]), 3)
        self.assertEqual(waiting([(2, 1)], [None, None, 0, None]), 1)
        self.assertEqual(waiting([(0, 3), (1, 1)], [0, 1, 0, 0]), 5)
        self.assertEqual(waiting([(0, 3), (1, 1)], [0, 0, 0, 1]), 6)
        self.assertEqual(waiting([], []), 0)
        self.assertEqual(waiting([], [None]), 0)

    def test_a_plan_that_is_not_complete(self):
        cases = [([(0, 3), (1, 1)], [0, 1, 0]), ([(0, 1)], []), ([(0, 1), (9, 1)], [0, None]), ([(0, 2)], [0, None]),
                 ([(0, GREAT)], [0, 0])]
        for day, plan in cases:
            with self.assertRaises(InvalidPlan) as caught:
                waiting(day, plan)
            self.assertEqual(caught.exception.at, len(plan))

    def test_a_wrong_minute_comes_ahead_of_a_plan_that_is_not_complete(self):
        with self.assertRaises(InvalidPlan) as caught:
            waiting([(0, 3), (5, 1)], [0, 1, 0])
        self.assertEqual(caught.exception.at, 1)

    def test_all_small_plans(self):
        for day in small_days.all_days(2, 2, 2):
            for plan in small_days.all_plans(day, 5):
                self.check(day, plan)

    def check(self, day, plan):
        places = {person: minute for minute, person in enumerate(plan)}
        left = small_days.left_behind(day, plan)
        ends = [None if left[person] else places[person] for person in range(len(day))]
        self.assertEqual(finished(day, plan), ends)
        if any(left):
            with self.assertRaises(InvalidPlan) as caught:
                waiting(day, plan)
            self.assertEqual(caught.exception.at, len(plan))
            return
        # Who waits at a minute is in the row at it.
        lefts = [small_days.left_behind(day, plan[:minute]) for minute in range(len(plan))]
        people = [len(small_days.row(day, one, minute)) for minute, one in enumerate(lefts)]
        self.assertEqual(waiting(day, plan), sum(people))


class WhatCanBe(unittest.TestCase):
    def test_examples(self):
        day = [(0, 3), (1, 1)]
        self.assertEqual(plan_for(day, 0, [0, 0]), [])
        self.assertEqual(plan_for(day, 2, [0, 0]), [None, None])
        self.assertEqual(sorted(plan_for(day, 2, [1, 1])), [0, 1])
        self.assertIsNone(plan_for(day, 2, [2, 1]))
        self.assertIsNone(plan_for(day, 1, [0, 1]))
        self.assertIsNone(forbidding(day, 2, [1, 1]))
        self.assertEqual(forbidding(day, 2, [2, 1]), 0)
        self.assertEqual(forbidding(day, 1, [0, 1]), 1)
        self.assertEqual(forbidding(day, 0, [1, 0]), 0)
        self.assertIsNone(forbidding([], 5, []))
        self.assertEqual(plan_for([], 3, []), [None, None, None])

    def test_the_greatest_minute_that_forbids(self):
        # The sums from 0, 1, .. on are 5, 3, 3, 3, 2, 2 against 5, 4, 3, 2, 1, 0 minutes.
        day = [(0, 2), (3, 1), (4, 1), (5, 1)]
        self.assertEqual(forbidding(day, 5, [2, 1, 1, 1]), 5)
        self.assertEqual(forbidding(day, 5, [2, 1, 1, 0]), None)
        # People who come late forbid at the minute itself, not at their own one.
        self.assertEqual(forbidding([(0, 1), (9, 1)], 4, [1, 1]), 4)
        # A sum stays too great between two comings: the later one counts.
        self.assertEqual(forbidding([(0, 1), (4, 3)], 6, [0, 3]), 4)
        self.assertEqual(forbidding([(0, 9), (4, 3)], 6, [6, 1]), 0)

    def test_all_small_amounts(self):
        for day in small_days.all_days(3, 2, 2):
            lefts = small_days.all_lefts(day, 5)
            for done in product(*[range(work + 1) for _, work in day]):
                left = tuple(work - amount for (_, work), amount in zip(day, done))
                for minute in range(6):
                    self.check(day, minute, list(done), left in lefts[minute])

    def check(self, day, minute, done, can_be):
        plan = plan_for(day, minute, done)
        against = [
            first for first in range(minute + 1)
            if sum(amount for (came, _), amount in zip(day, done) if came >= first) > minute - first
        ]
        self.assertEqual(not against, can_be)
        self.assertEqual(forbidding(day, minute, done), max(against, default=None))
        if not can_be:
            self.assertIsNone(plan)
            return
        self.assertIs(type(plan), list)
        self.assertEqual(len(plan), minute)
        self.assertIsNone(small_days.first_wrong(day, plan))
        self.assertEqual([plan.count(person) for person in range(len(day))], done)

    def test_days_at_the_limit(self):
        day = [(10 * k, 100) for k in range(30)]
        self.check(day, 300, [10] * 30, True)
        self.check(day, 300, [10] * 29 + [11], False)
        self.check(day, 300, [11] + [10] * 29, False)
        self.check(day, 300, [0] * 29 + [10], True)
        self.check(day, 299, [0] * 29 + [10], False)

    def test_days_beyond_the_limit(self):
        day = [(0, GREAT), (GREAT - 1, GREAT)]
        self.assertIsNone(forbidding(day, GREAT, [GREAT - 1, 1]))
        self.assertEqual(forbidding(day, GREAT, [GREAT, 1]), 0)
        self.assertEqual(forbidding(day, GREAT, [0, 2]), GREAT - 1)
        self.assertIsNone(plan_for(day, GREAT, [GREAT, 1]))
        self.check([(k, 120) for k in range(35)], 450, [12] * 35, True)

    def test_wrong_amounts(self):
        day = [(0, 3), (1, 1)]
        wrong = [
            None, True, 0, "", "00", (), (0, 0), {}, {0: 0, 1: 0}, range(2), object(), Row([1, 1]), small.EqualToAll(),
            [], [0], [0, 0, 0], [4, 0], [0, 2], [3, GREAT], [-1, 0], [0, -1], [True, 0], [0, True], [False, 0],
            [0, False], [0.0, 0], [0, 1.0], ["0", 0], [0, None], [None, None], [[0], 0], [0, (1,)], [(0, 0), (0, 0)],
            [small.EqualToAll(), 0], [0, object()],
        ]
        for done in wrong:
            for call in (plan_for, forbidding):
                for minute in (0, 5):
                    with self.subTest(done=done, call=call), self.assertRaises(InvalidWork):
                        call(day, minute, done)
        for call in (plan_for, forbidding):
            with self.assertRaises(InvalidWork):
                call([], 3, [0])


class CopiesAndSameResults(unittest.TestCase):
    def test_arguments_are_not_changed(self):
        day, plan, done = [(0, 3), (1, 1)], [0, 1, 0, 0], [2, 1]
        check_plan(day, plan)
        row_at(day, plan, 2)
        finished(day, plan)
        waiting(day, plan)
        plan_for(day, 4, done)
        forbidding(day, 1, done)
        self.assertEqual((day, plan, done), ([(0, 3), (1, 1)], [0, 1, 0, 0], [2, 1]))

    def test_a_call_that_raises_changes_nothing(self):
        day, plan, done = [(0, 3), (1, 1)], [0, 1, 1, "no number"], [2, 2]
        for call in PLAN_CALLS:
            with self.assertRaises(InvalidPlan):
                call(day, plan)
        for call in (plan_for, forbidding):
            with self.assertRaises(InvalidWork):
                call(day, 3, done)
        self.assertEqual((day, plan, done), ([(0, 3), (1, 1)], [0, 1, 1, "no number"], [2, 2]))

    def test_what_is_returned_may_be_changed_afterwards(self):
        day, plan, done = [(0, 3), (1, 1)], [0, 1, 0, 0], [2, 1]
        first = plan_for(day, 4, done)
        kept = list(first)
        first.clear()
        self.assertEqual(plan_for(day, 4, done), kept)
        ends = finished(day, plan)
        ends.append(9)
        self.assertEqual(finished(day, plan), [3, 1])
        row_at(day, plan, 1).parts.clear()
        self.assertEqual(row_at(day, plan, 1).parts, [2, 1])
        self.assertEqual((day, plan, done), ([(0, 3), (1, 1)], [0, 1, 0, 0], [2, 1]))


if __name__ == "__main__":
    unittest.main()
