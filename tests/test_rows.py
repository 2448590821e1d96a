"""Promises [2], [3], [6] and, for not_fewer and not_evener, [7]: rows and their two orders."""

import unittest

import small
from fewestwait.errors import InvalidRow
from fewestwait.rows import Row, not_evener, not_fewer

GREAT = 10 ** 30 - 1

NO_ROWS = [
    None, True, 3, "", "21", b"21", (), (2, 1), {2: 1}, {2, 1}, range(1, 3), Row([2, 1]), object(),
    [0], [-1], [2, 0], [2, -1, 1], [True], [False], [2, True], [1.0], [2.5], ["1"], [b"1"], [None], [[1]], [(1,)],
    [Row([1])], [1, 2, "3"], [-GREAT], [object()],
]


class Parts(unittest.TestCase):
    def test_parts_go_from_the_greatest_to_the_least(self):
        self.assertEqual(Row([1, 3]).parts, [3, 1])
        self.assertEqual(Row([2, 5, 2, 1, 5]).parts, [5, 5, 2, 2, 1])

    def test_parts_are_a_list(self):
        self.assertIs(type(Row([1, 3]).parts), list)
        self.assertIs(type(Row([]).parts), list)

    def test_len_counts_all_items(self):
        for items in ([], [4], [4, 4], [1, 2, 3, 3]):
            self.assertEqual(len(Row(items)), len(items))

    def test_iteration_goes_in_the_order_of_parts(self):
        row = Row([1, 3, 2, 3])
        self.assertEqual([item for item in row], [3, 3, 2, 1])
        self.assertEqual(list(row), [3, 3, 2, 1])
        self.assertEqual(list(zip(row, row)), [(3, 3), (3, 3), (2, 2), (1, 1)])

    def test_empty_row(self):
        row = Row([])
        self.assertEqual(row.parts, [])
        self.assertEqual(len(row), 0)
        self.assertEqual(list(row), [])
        for k in (0, 1, 5):
            self.assertEqual(row.head(k), 0)
            self.assertEqual(row.tail(k), 0)
        self.assertTrue(row.fewer(row))
        self.assertTrue(row.evener(row))
        self.assertEqual(row, Row([]))

    def test_all_small_rows(self):
        for items in small.all_rows(3, 4):
            for given in (list(items), list(items)[::-1]):
                self.assertEqual(Row(given).parts, list(items))


class InvalidRows(unittest.TestCase):
    def test_any_other_value_is_refused(self):
        for value in NO_ROWS:
            with self.subTest(value=value):
                with self.assertRaises(InvalidRow):
                    Row(value)

    def test_a_list_that_holds_itself_is_refused(self):
        items = [1]
        items.append(items)
        with self.assertRaises(InvalidRow):
            Row(items)


class HeadsAndTails(unittest.TestCase):
    def test_heads_and_tails(self):
        row = Row([2, 7, 4])
        self.assertEqual([row.head(k) for k in range(6)], [0, 7, 11, 13, 13, 13])
        self.assertEqual([row.tail(k) for k in range(6)], [13, 6, 2, 0, 0, 0])

    def test_far_beyond_the_items(self):
        row = Row([2, 7, 4])
        for k in (60, 10 ** 30):
            self.assertEqual(row.head(k), 13)
            self.assertEqual(row.tail(k), 0)

    def test_all_small_rows(self):
        for items in small.all_rows(4, 4):
            row = Row(list(items))
            for k in range(len(items) + 3):
                self.assertEqual(row.head(k), small.head(items, k))
                self.assertEqual(row.tail(k), small.tail(items, k))


class Orders(unittest.TestCase):
    def test_the_example_of_the_interface(self):
        self.assertIs(Row([1, 3]).fewer(Row([2, 2])), True)
        self.assertIs(Row([2, 2]).fewer(Row([1, 3])), False)

    def test_evener(self):
        self.assertIs(Row([2, 2]).evener(Row([1, 3])), True)
        self.assertIs(Row([1, 3]).evener(Row([2, 2])), False)

    def test_each_row_against_itself(self):
        for items in small.all_rows(3, 3):
            row = Row(list(items))
            self.assertIs(row.fewer(row), True)
            self.assertIs(row.evener(Row(list(items))), True)
            self.assertIsNone(not_fewer(row, row))
            self.assertIsNone(not_evener(row, row))

    def test_numbers_against(self):
        cases = [
            # one, other, not_fewer, not_evener
            ([5], [4], 0, 1),
            ([4], [5], None, None),
            ([2, 2], [3, 1], 1, None),
            ([3, 1], [2, 2], None, 1),
            ([], [], None, None),
            ([], [1], None, None),
            ([1], [], 0, 1),
            ([1, 1, 1], [3], 1, None),
            ([3], [1, 1, 1], None, 1),
            ([4, 2, 2], [4, 3, 1], 2, None),
            ([4, 3, 1], [4, 2, 2], None, 2),
            ([2, 2, 2], [3, 2], 0, 3),
            ([9, 9, 9], [8, 8, 8], 0, 1),
        ]
        for one, other, fewer, evener in cases:
            with self.subTest(one=one, other=other):
                self.assertEqual(not_fewer(Row(one), Row(other)), fewer)
                self.assertEqual(not_evener(Row(one), Row(other)), evener)

    def test_all_small_rows(self):
        rows = [(items, Row(list(items))) for items in small.all_rows(4, 5)]
        for x, one in rows:
            for y, other in rows:
                fewer = small.first_greater(x, y, small.tail)
                evener = small.first_greater(x, y, small.head)
                self.assertEqual(not_fewer(one, other), fewer)
                self.assertEqual(not_evener(one, other), evener)
                self.assertIs(one.fewer(other), fewer is None)
                self.assertIs(one.evener(other), evener is None)


class SumsAndEquality(unittest.TestCase):
    def test_sum_has_the_items_of_both(self):
        self.assertEqual((Row([3, 1]) + Row([2, 3])).parts, [3, 3, 2, 1])
        self.assertIs(type(Row([3]) + Row([2])), Row)

    def test_sum_with_the_empty_row(self):
        self.assertEqual(Row([3, 1]) + Row([]), Row([3, 1]))
        self.assertEqual(Row([]) + Row([3, 1]), Row([3, 1]))
        self.assertEqual(Row([]) + Row([]), Row([]))

    def test_sum_changes_neither_row(self):
        one, other = Row([3, 1]), Row([2])
        both = one + other
        self.assertEqual((one.parts, other.parts, both.parts), ([3, 1], [2], [3, 2, 1]))
        self.assertEqual((one + one).parts, [3, 3, 1, 1])

    def test_sums_of_all_small_rows(self):
        rows = small.all_rows(3, 3)
        for x in rows:
            for y in rows:
                self.assertEqual((Row(list(x)) + Row(list(y))).parts, sorted(x + y, reverse=True))

    def test_equal_exactly_if_the_items_are(self):
        rows = small.all_rows(3, 3)
        for x in rows:
            for y in rows:
                one, other = Row(list(x)), Row(list(y)[::-1])
                self.assertIs(one == other, x == y)
                self.assertIs(one != other, x != y)

    def test_other_values_are_not_equal(self):
        row = Row([3, 1])
        for value in ([3, 1], (3, 1), "3 1", None, 4, 2, True, {3: 1}, object()):
            self.assertIs(row == value, False)
            self.assertIs(row != value, True)
            self.assertIs(value == row, False)
        self.assertIs(Row([]) == [], False)
        self.assertIs(Row([]) == None, False)  # noqa: E711


class Copies(unittest.TestCase):
    def test_the_list_that_is_handed_in_may_be_changed_afterwards(self):
        items = [1, 3]
        row = Row(items)
        items.append(9)
        items[0] = 7
        self.assertEqual(row.parts, [3, 1])
        self.assertEqual(len(row), 2)
        self.assertEqual(row.head(1), 3)

    def test_the_list_that_is_returned_may_be_changed_afterwards(self):
        row = Row([1, 3])
        parts = row.parts
        parts.clear()
        row.parts.append(9)
        self.assertEqual(row.parts, [3, 1])
        self.assertEqual(list(row), [3, 1])
        self.assertEqual(row.tail(0), 4)

    def test_arguments_are_not_changed(self):
        items = [1, 3, 2]
        one = Row(items)
        other = Row([2, 2])
        self.assertEqual(items, [1, 3, 2])
        one.fewer(other)
        one.evener(other)
        not_fewer(one, other)
        not_evener(one, other)
        self.assertEqual((one.parts, other.parts), ([3, 2, 1], [2, 2]))

    def test_the_same_call_returns_the_same_result(self):
        one, other = Row([4, 2, 2]), Row([4, 3, 1])
        for call in (not_fewer, not_evener, Row.fewer, Row.evener, Row.__add__, Row.__eq__):
            self.assertEqual(call(one, other), call(one, other))
        self.assertEqual(one.parts, one.parts)
        self.assertEqual(list(one), list(one))

    def test_iterations_do_not_disturb_each_other(self):
        row = Row([3, 2])
        self.assertEqual([(a, b) for a in row for b in row], [(3, 3), (3, 2), (2, 3), (2, 2)])


class Limits(unittest.TestCase):
    def test_items_of_30_digits(self):
        row = Row([1, GREAT, GREAT - 1])
        self.assertEqual(row.parts, [GREAT, GREAT - 1, 1])
        self.assertEqual(row.head(2), 2 * GREAT - 1)
        self.assertEqual(row.tail(1), GREAT)
        self.assertEqual(not_fewer(Row([GREAT, GREAT]), Row([GREAT, GREAT - 1])), 0)
        self.assertEqual(not_evener(Row([GREAT, GREAT]), Row([GREAT, GREAT - 1])), 2)
        self.assertEqual(not_fewer(Row([GREAT - 1, GREAT - 1]), Row([GREAT, GREAT - 2])), 1)
        self.assertEqual(not_evener(Row([GREAT, GREAT - 2]), Row([GREAT - 1, GREAT - 1])), 1)
        self.assertTrue(Row([GREAT, GREAT - 2]).fewer(Row([GREAT - 1, GREAT - 1])))
        self.assertTrue(Row([GREAT - 1, GREAT - 1]).evener(Row([GREAT, GREAT - 2])))
        self.assertEqual((row + row).parts, [GREAT, GREAT, GREAT - 1, GREAT - 1, 1, 1])

    def test_limits_are_not_checked(self):
        row = Row([101] * 61)
        self.assertEqual(len(row), 61)
        self.assertEqual(len(row + row), 122)
        self.assertEqual(row.head(61), 61 * 101)
        self.assertEqual((row + row).tail(61), 61 * 101)
        self.assertEqual(not_fewer(row, Row([100] * 61)), 0)
        self.assertEqual(not_evener(Row([100] * 60 + [160]), Row([101] * 60 + [99])), 1)


if __name__ == "__main__":
    unittest.main()
