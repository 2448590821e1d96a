"""Promises [14] and [5] (e): weights; of [2], [3] and [4] what holds of them."""

import unittest
from itertools import permutations, product
from math import factorial

from fewestwait.errors import InvalidOrder
from fewestwait.rows import Row
from fewestwait.weights import best_order, best_orders, cost, exchange_gain, least_cost
from small import EqualToAll

GREAT = 10 ** 30 - 1
NOT_A_PERSON = [None, True, False, -1, 2, 3, GREAT, 1.0, "0", "", b"0", [], [1], (), (1,), {}, object(), EqualToAll()]

# No one of them is an order of two people.
NO_ORDERS = [
    None, True, 0, 2, "", "01", b"\x00\x01", (), (0, 1), (1, 0), {}, {0: 1, 1: 0}, {0, 1}, range(2), object(),
    EqualToAll(), Row([1, 1]), [], [0], [1], [0, 0], [1, 1], [0, 1, 1], [0, 1, 0], [0, 1, 2], [2, 1], [1, 2], [-1, 0],
    [0, -1], [[0, 1]], [(0, 1)], [[0], [1]], [True, False], [False, True], [0, True], [False, 1], [1, False],
    [0.0, 1.0], [0, 1.0], ["0", "1"], [None, None], [0, None], [EqualToAll(), EqualToAll()],
] + [[0, item] for item in NOT_A_PERSON] + [[item, 1] for item in NOT_A_PERSON]


def cost_of(people, order):
    """The cost: for each person the sum of all works up to the own one, times the weight."""
    return sum(
        people[person][1] * sum(people[other][0] for other in order[:place + 1])
        for place, person in enumerate(order)
    )


def all_orders(people):
    """All orders, as lists are ordered."""
    return [list(order) for order in permutations(range(len(people)))]


def never_rises(people, order):
    """Whether the quotients weight by work never rise."""
    pairs = [(people[one], people[other]) for one, other in zip(order, order[1:])]
    return all(weight * other_work >= other_weight * work for (work, weight), (other_work, other_weight) in pairs)


def all_people(many, work, weight):
    """All lists of so many people with works and weights up to these."""
    pairs = list(product(range(1, work + 1), range(1, weight + 1)))
    return [list(people) for people in product(pairs, repeat=many)]


SMALL = all_people(0, 1, 1) + all_people(1, 3, 3) + all_people(2, 3, 3) + all_people(3, 3, 3) + all_people(4, 2, 2)
LONGER = [
    [(3, 1), (6, 2), (1, 1), (2, 2), (9, 3)],
    [(5, 4), (4, 5), (10, 8), (1, 1), (5, 4)],
    [(7, 7), (3, 3), (100, 100), (1, 1), (2, 2)],
    [(1, 10 ** 9), (100, 1), (99, 10 ** 9), (100, 10 ** 9), (1, 1)],
    [(1, 5), (2, 4), (3, 3), (4, 2), (5, 1), (6, 6)],
    [(5, 1), (4, 2), (3, 3), (2, 4), (1, 5), (2, 4)],
]


class Cost(unittest.TestCase):
    def test_ordinary(self):
        people = [(2, 3), (1, 5), (4, 1)]
        self.assertEqual(cost(people, [0, 1, 2]), 3 * 2 + 5 * 3 + 1 * 7)
        self.assertEqual(cost(people, [2, 0, 1]), 1 * 4 + 3 * 6 + 5 * 7)

    def test_nobody_and_one_person(self):
        self.assertEqual(cost([], []), 0)
        self.assertEqual(cost([(7, 10 ** 9)], [0]), 7 * 10 ** 9)

    def test_all_small_people_and_orders(self):
        for people in SMALL + LONGER:
            for order in all_orders(people):
                self.assertEqual(cost(people, order), cost_of(people, order))

    def test_any_other_value_is_refused(self):
        for order in NO_ORDERS:
            with self.subTest(order=order), self.assertRaises(InvalidOrder):
                cost([(2, 3), (1, 5)], order)
            with self.subTest(order=order), self.assertRaises(InvalidOrder):
                exchange_gain([(2, 3), (1, 5)], order, 0)

    def test_orders_of_nobody(self):
        for order in (None, (), {}, "", 0, [0], [None], [[]], EqualToAll()):
            with self.subTest(order=order), self.assertRaises(InvalidOrder):
                cost([], order)

    def test_each_list_of_small_numbers(self):
        for many in range(4):
            people = [(1, 1)] * many
            for size in range(5):
                for order in product(range(-1, many + 1), repeat=size):
                    if sorted(order) == list(range(many)):
                        self.assertEqual(cost(people, list(order)), many * (many + 1) // 2)
                    else:
                        with self.assertRaises(InvalidOrder):
                            cost(people, list(order))


class ExchangeGain(unittest.TestCase):
    def test_ordinary(self):
        people = [(2, 3), (1, 5), (4, 1)]
        self.assertEqual(exchange_gain(people, [0, 1, 2], 0), 3 * 1 - 5 * 2)
        self.assertEqual(exchange_gain(people, [0, 1, 2], 1), 5 * 4 - 1 * 1)
        self.assertEqual(exchange_gain(people, [2, 1, 0], 0), 1 * 1 - 5 * 4)

    def test_it_is_what_the_exchange_changes(self):
        for people in SMALL + LONGER:
            for order in all_orders(people):
                for i in range(len(order) - 1):
                    behind = list(order)
                    behind[i], behind[i + 1] = order[i + 1], order[i]
                    gain = exchange_gain(people, order, i)
                    self.assertEqual(gain, cost_of(people, behind) - cost_of(people, order))


class Least(unittest.TestCase):
    def test_ordinary(self):
        people = [(2, 3), (1, 5), (4, 6), (4, 1)]
        self.assertEqual(best_order(people), [1, 0, 2, 3])
        self.assertEqual(best_orders(people), 2)
        self.assertEqual(least_cost(people), 5 * 1 + 3 * 3 + 6 * 7 + 1 * 11)

    def test_nobody_and_one_person(self):
        self.assertEqual((least_cost([]), best_order([]), best_orders([])), (0, [], 1))
        self.assertEqual((least_cost([(4, 3)]), best_order([(4, 3)]), best_orders([(4, 3)])), (12, [0], 1))

    def test_equal_quotients_keep_the_order_of_their_numbers(self):
        people = [(4, 2), (1, 1), (2, 1), (3, 3), (6, 3), (2, 2)]
        self.assertEqual(best_order(people), [1, 3, 5, 0, 2, 4])
        self.assertEqual(best_orders(people), 36)

    def test_a_search_through_all_orders(self):
        for people in SMALL + LONGER:
            orders = all_orders(people)
            costs = [cost_of(people, order) for order in orders]
            least = min(costs)
            with self.subTest(people=people):
                self.assertEqual(least_cost(people), least)
                self.assertEqual(best_order(people), orders[costs.index(least)])
                self.assertEqual(best_orders(people), costs.count(least))

    def test_the_best_orders_are_those_in_which_the_quotients_never_rise(self):
        for people in SMALL + LONGER:
            least = least_cost(people)
            for order in all_orders(people):
                self.assertIs(cost(people, order) == least, never_rises(people, order))

    def test_thirty_people(self):
        people = [(1 + k % 7, 10 ** 9 - k % 5) for k in range(30)]
        order = best_order(people)
        self.assertTrue(never_rises(people, order))
        self.assertEqual(least_cost(people), cost_of(people, order))
        self.assertEqual(best_orders([(k, 3 * k) for k in range(1, 31)]), factorial(30))
        self.assertEqual(best_order([(k, 3 * k) for k in range(1, 31)]), list(range(30)))

    def test_quotients_that_lie_side_by_side(self):
        # As fractions of machine numbers, all of these would be 1.
        people = [(10 ** 29, 10 ** 29 - 1), (10 ** 29, 10 ** 29), (10 ** 29 - 1, 10 ** 29), (7, 7)]
        self.assertEqual(best_order(people), [2, 1, 3, 0])
        self.assertEqual(best_orders(people), 2)


class CopiesAndSameResults(unittest.TestCase):
    def test_arguments_are_not_changed(self):
        people, order = [(2, 3), (1, 5), (4, 1)], [2, 0, 1]
        cost(people, order)
        exchange_gain(people, order, 1)
        least_cost(people)
        best_order(people)
        best_orders(people)
        self.assertEqual((people, order), ([(2, 3), (1, 5), (4, 1)], [2, 0, 1]))

    def test_the_order_that_is_returned_may_be_changed_afterwards(self):
        people = [(2, 3), (1, 5), (4, 1)]
        first = best_order(people)
        first.reverse()
        self.assertEqual(best_order(people), [1, 0, 2])
        self.assertIs(type(first), list)


if __name__ == "__main__":
    unittest.main()
