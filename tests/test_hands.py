"""Promises [15], [16] and [5] (f): several hands; of [2] and [3] what holds of them."""

import unittest
from itertools import combinations, permutations, product

from fewestwait.hands import (
    division, division_sum, hands_plan, is_hands_plan, least_minutes, least_sum, two_hands,
)

GREAT = 10 ** 30 - 1


def all_works(many, greatest):
    """All lists of up to so many works up to the greatest one."""
    return [list(works) for size in range(many + 1) for works in product(range(1, greatest + 1), repeat=size)]


SMALL = [(works, hands) for works in all_works(4, 3) for hands in range(1, 5)]
LONGER = [
    ([100] * 30, 6), ([100, 1, 1, 1], 2), ([1] * 30, 6), ([5, 5, 5, 5, 5], 4), ([7], 6),
    ([9, 8, 7, 6, 5, 4, 3, 2, 1], 3), ([2, 2, 2], 2), ([3, 3, 3], 2), ([10, 20, 30, 40, 60], 3),
    ([99, 98, 97, 96, 95, 94, 93], 6),
]


def minutes_by_search(works, hands):
    """The least number of minutes, by a search through all that can be left behind each minute."""
    found = {tuple(sorted(works))}
    minutes = 0
    while not any(all(work == 0 for work in left) for left in found):
        behind = set()
        for left in found:
            there = [k for k, work in enumerate(left) if work > 0]
            for served in combinations(there, min(hands, len(there))):
                behind.add(tuple(sorted(work - (k in served) for k, work in enumerate(left))))
        found = behind
        minutes += 1
    return minutes


def is_plan(works, hands, plan):
    """Whether this is a plan of hands that does all works, word by word."""
    for people in plan:
        if len(people) > hands or any(people.count(person) > 1 for person in people):
            return False
        if any(person not in range(len(works)) for person in people):
            return False
    return all(sum(people.count(person) for people in plan) == work for person, work in enumerate(works))


def all_divisions(many, hands):
    """All divisions of so many people, with each order of each hand's people."""
    for order in permutations(range(many)):
        for ends in combinations(range(many + hands - 1), hands - 1):
            cuts = [0, *[end - k for k, end in enumerate(ends)], many]
            yield [list(order[one:other]) for one, other in zip(cuts, cuts[1:])]


def sum_of(works, lists):
    """The sum of all finishing times: each is the sum of the own work and of all works ahead of it."""
    return sum(works[other] for people in lists for k in range(len(people)) for other in people[:k + 1])


def left_under_shortest(works, hands, minutes):
    """The works that are left if in each minute those with the least work left are served."""
    left = list(works)
    for _ in range(minutes):
        there = sorted((work, person) for person, work in enumerate(left) if work > 0)
        for _, person in there[:hands]:
            left[person] -= 1
    return left


class LeastMinutes(unittest.TestCase):
    def test_ordinary(self):
        self.assertEqual(least_minutes([3, 3, 3], 2), 5)
        self.assertEqual(least_minutes([5, 1, 1], 2), 5)
        self.assertEqual(least_minutes([4, 2, 2], 2), 4)
        self.assertEqual(least_minutes([4, 2, 3], 1), 9)

    def test_nobody_and_one_person(self):
        for hands in range(1, 7):
            self.assertEqual(least_minutes([], hands), 0)
            self.assertEqual(least_minutes([8], hands), 8)

    def test_a_search_through_all_plans(self):
        for works, hands in SMALL:
            with self.subTest(works=works, hands=hands):
                self.assertEqual(least_minutes(works, hands), minutes_by_search(works, hands))

    def test_it_is_the_longest_work_or_the_mean_rounded_up(self):
        for works, hands in SMALL + LONGER:
            minutes = least_minutes(works, hands)
            self.assertIs(type(minutes), int)
            self.assertTrue(minutes * hands >= sum(works) and all(minutes >= work for work in works))
            self.assertTrue((minutes - 1) * hands < sum(works) or minutes in works)

    def test_great_works(self):
        self.assertEqual(least_minutes([GREAT, GREAT, GREAT], 2), (3 * GREAT + 1) // 2)
        self.assertEqual(least_minutes([GREAT, 1], 2), GREAT)


class HandsPlan(unittest.TestCase):
    def test_plans_reach_the_least_number_of_minutes(self):
        for works, hands in SMALL + LONGER:
            plan = hands_plan(works, hands)
            with self.subTest(works=works, hands=hands):
                self.assertTrue(is_plan(works, hands, plan))
                self.assertEqual(len(plan), least_minutes(works, hands))
                self.assertIs(type(plan), list)
                self.assertTrue(all(type(people) is list for people in plan))
                self.assertIs(is_hands_plan(works, hands, plan), True)

    def test_nobody(self):
        self.assertEqual(hands_plan([], 3), [])

    def test_more_hands_than_people(self):
        self.assertEqual([sorted(people) for people in hands_plan([1, 2], 6)].count([0, 1]), 1)


class IsHandsPlan(unittest.TestCase):
    def test_ordinary(self):
        self.assertIs(is_hands_plan([1, 1, 2], 2, [[0, 2], [1, 2]]), True)
        self.assertIs(is_hands_plan([1, 1, 2], 2, [[0, 2], [2, 1]]), True)
        self.assertIs(is_hands_plan([1, 1, 2], 2, [[0, 1], [2], [2]]), True)
        self.assertIs(is_hands_plan([1, 1, 2], 1, [[0, 2], [1, 2]]), False)
        self.assertIs(is_hands_plan([1, 1, 2], 2, [[0, 1], [2, 2]]), False)
        self.assertIs(is_hands_plan([1, 1, 2], 2, [[0, 1], [2]]), False)
        self.assertIs(is_hands_plan([1, 1, 2], 2, [[0, 1], [2], [2], [2]]), False)
        self.assertIs(is_hands_plan([1, 1, 2], 3, [[0, 1, 2], [2, 3]]), False)

    def test_minutes_without_people_may_stand_in_it(self):
        self.assertIs(is_hands_plan([1, 1], 2, [[], [0], [], [1], [], []]), True)
        self.assertIs(is_hands_plan([], 2, [[], []]), True)

    def test_nobody(self):
        self.assertIs(is_hands_plan([], 1, []), True)
        self.assertIs(is_hands_plan([], 1, [[0]]), False)
        self.assertIs(is_hands_plan([], 1, [[-1]]), False)
        self.assertIs(is_hands_plan([1], 1, []), False)

    def test_numbers_from_behind_are_nobody(self):
        self.assertIs(is_hands_plan([1, 1], 2, [[0, -1]]), False)
        self.assertIs(is_hands_plan([1, 1], 2, [[-2, -1]]), False)
        self.assertIs(is_hands_plan([1, 1], 2, [[0, 2]]), False)
        self.assertIs(is_hands_plan([1, 1], 2, [[0, GREAT]]), False)
        self.assertIs(is_hands_plan([1], 1, [[-GREAT]]), False)

    def test_truth_values_are_nobody(self):
        self.assertIs(is_hands_plan([1, 1], 2, [[0, True]]), False)
        self.assertIs(is_hands_plan([1], 2, [[False]]), False)

    def test_all_small_lists(self):
        minutes = [list(people) for size in range(3) for people in product(range(-1, 3), repeat=size)]
        plans = [list(plan) for size in range(3) for plan in product(minutes, repeat=size)]
        for works in all_works(2, 2):
            for hands in range(1, 4):
                for plan in plans:
                    self.assertIs(is_hands_plan(works, hands, plan), is_plan(works, hands, plan))


class Division(unittest.TestCase):
    def test_ordinary(self):
        self.assertEqual(least_sum([1, 2, 3], 2), 1 + 2 + 4)
        self.assertEqual(least_sum([3, 1, 2], 1), 1 + 3 + 6)
        self.assertEqual(division_sum([1, 2, 3], [[0, 2], [1]]), 7)
        self.assertEqual(division_sum([1, 2, 3], [[2, 0], [1]]), 3 + 4 + 2)
        self.assertEqual(division_sum([1, 2, 3], [[], [2, 1, 0], []]), 3 + 5 + 6)

    def test_nobody_and_one_person(self):
        for hands in range(1, 7):
            self.assertEqual(least_sum([], hands), 0)
            self.assertEqual(division([], hands), [[]] * hands)
            self.assertEqual(least_sum([9], hands), 9)
            self.assertEqual(sorted(division([9], hands)), [[]] * (hands - 1) + [[0]])
        self.assertEqual(division_sum([], []), 0)
        self.assertEqual(division_sum([], [[], []]), 0)

    def test_a_search_through_all_divisions(self):
        for works, hands in SMALL:
            least = min(sum_of(works, lists) for lists in all_divisions(len(works), hands))
            with self.subTest(works=works, hands=hands):
                self.assertEqual(least_sum(works, hands), least)
                self.assertEqual(sum_of(works, division(works, hands)), least)

    def test_each_division_has_a_list_for_each_hand_and_each_person_once(self):
        for works, hands in SMALL + LONGER:
            lists = division(works, hands)
            self.assertEqual(len(lists), hands)
            self.assertTrue(all(type(people) is list for people in lists))
            self.assertEqual(sorted(person for people in lists for person in people), list(range(len(works))))
            self.assertEqual(division_sum(works, lists), least_sum(works, hands))

    def test_the_sum_of_all_divisions(self):
        for works in all_works(3, 3):
            for lists in all_divisions(len(works), 2):
                self.assertEqual(division_sum(works, lists), sum_of(works, lists))

    def test_great_works(self):
        self.assertEqual(least_sum([GREAT, GREAT, 1], 2), 1 + GREAT + GREAT + 1)


class TwoHands(unittest.TestCase):
    def test_fewer_people_are_left_under_the_plan(self):
        works, plan, minute = two_hands()
        self.assertTrue(all(type(work) is int and 1 <= work <= 100 for work in works))
        self.assertTrue(is_plan(works, 2, plan))
        left = [work - sum(people.count(person) for people in plan[:minute]) for person, work in enumerate(works)]
        shortest = left_under_shortest(works, 2, minute)
        self.assertLess(len([work for work in left if work > 0]), len([work for work in shortest if work > 0]))

    def test_kinds_of_values(self):
        told = two_hands()
        self.assertIs(type(told), tuple)
        self.assertEqual([type(part) for part in told], [list, list, int])
        self.assertTrue(all(type(people) is list for people in told[1]))


class CopiesAndSameResults(unittest.TestCase):
    def test_arguments_are_not_changed(self):
        works, plan, lists = [3, 1, 2], [[0, 1], [0, 2], [0, 2]], [[1, 0], [2]]
        least_minutes(works, 2)
        hands_plan(works, 2)
        is_hands_plan(works, 2, plan)
        least_sum(works, 2)
        division(works, 2)
        division_sum(works, lists)
        self.assertEqual((works, plan, lists), ([3, 1, 2], [[0, 1], [0, 2], [0, 2]], [[1, 0], [2]]))

    def test_what_is_returned_may_be_changed_afterwards(self):
        for call in (lambda: hands_plan([3, 1, 2], 2), lambda: division([3, 1, 2], 2), lambda: two_hands()[0],
                     lambda: two_hands()[1]):
            first = call()
            kept = [list(item) if isinstance(item, list) else item for item in first]
            if isinstance(first[0], list):
                first[0].append(7)
            first.append(None)
            self.assertEqual(call(), kept)


if __name__ == "__main__":
    unittest.main()
