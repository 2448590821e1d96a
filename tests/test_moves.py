"""Promises [5] (a) and [7]: moves and what they lead to; of [2] and [3] what holds of moves."""

import unittest

import small
from fewestwait.errors import InvalidLines, InvalidMove, NotEvener, NotFewer
from fewestwait.moves import even_moved, even_moves, less_moved, less_moves
from fewestwait.rows import Row, not_evener, not_fewer


# Each one would be a move on [3, 1, 1] if its kind or its form were not looked at.
NO_MOVES = [
    None, True, 1, "off", b"off", "pass", [], (), {}, {"off": 1}, Row([1]), object(), small.EqualToAll(),
    ["off", 1], ["pass", 1, 1], ("off",), ("off", 1, 1), ("off", 1, 3), ("pass",), ("pass", 1), ("pass", 3),
    ("pass", 1, 1, 1), ("pass", 3, 1, 1), (1, "off"), ("Off", 1), ("PASS", 1, 1), ("", 1), ("of", 1), ("off ", 1),
    ("on", 1), ("pas", 1, 1), (b"off", 1), (None, 1), (0, 1, 1), (("off", 1),), ("off", (1,)),
    ("off", True), ("off", 1.0), ("off", "1"), ("off", None), ("off", [1]),
    ("off", small.EqualToAll()), (small.EqualToAll(), 1),
    ("pass", True, 1), ("pass", 1, True), ("pass", True, True), ("pass", True, 3), ("pass", 3, True),
    ("pass", 1.0, 1), ("pass", 1, 3.0), ("pass", 3, 1.0), ("pass", 3, False), ("pass", 3, 0.0), ("pass", "1", 3),
    ("pass", 1, None), ("pass", 3, None), ("pass", None, None), ("pass", 1, small.EqualToAll()), ("pass", [1], 3),
    ("off", 0), ("off", -1), ("off", 2), ("off", 4), ("off", 10 ** 30),
    ("pass", 0, 0), ("pass", 0, 1), ("pass", 0, 3), ("pass", 2, 3), ("pass", 1, 2), ("pass", 1, 4), ("pass", 4, 1),
    ("pass", 3, 3), ("pass", 3, -1), ("pass", -1, 3), ("pass", 1, -1), ("pass", 3, 2), ("pass", 1, 0),
    ("pass", 10 ** 30, 1), ("pass", 1, 10 ** 30),
]


def row_of(items):
    return Row(list(items))


class LessMoved(unittest.TestCase):
    def assertRefused(self, row, moves):
        with self.assertRaises(InvalidMove):
            less_moved(row, moves)

    def test_no_moves(self):
        self.assertEqual(less_moved(Row([3, 1]), []), Row([3, 1]))
        self.assertEqual(less_moved(Row([]), []), Row([]))

    def test_off(self):
        self.assertEqual(less_moved(Row([3, 1]), [("off", 3)]), Row([2, 1]))
        self.assertEqual(less_moved(Row([2, 2]), [("off", 2)]), Row([2, 1]))

    def test_an_item_that_becomes_0_is_gone(self):
        self.assertEqual(less_moved(Row([3, 1]), [("off", 1)]), Row([3]))
        self.assertEqual(less_moved(Row([1]), [("off", 1)]), Row([]))
        self.assertEqual(less_moved(Row([3, 1]), [("pass", 1, 3)]), Row([4]))
        self.assertEqual(less_moved(Row([1, 1]), [("pass", 1, 1)]), Row([2]))

    def test_pass(self):
        self.assertEqual(less_moved(Row([2, 2]), [("pass", 2, 2)]), Row([3, 1]))
        self.assertEqual(less_moved(Row([5, 3, 2]), [("pass", 3, 5)]), Row([6, 2, 2]))

    def test_equal_items_must_be_two(self):
        self.assertRefused(Row([2, 1]), [("pass", 2, 2)])
        self.assertRefused(Row([1]), [("pass", 1, 1)])

    def test_the_other_item_must_be_at_least_as_great(self):
        self.assertRefused(Row([3, 1]), [("pass", 3, 1)])
        self.assertRefused(Row([3, 1]), [("pass", 3, 0)])

    def test_each_move_is_looked_at_at_its_time(self):
        self.assertEqual(less_moved(Row([3, 3]), [("off", 3), ("off", 2), ("pass", 1, 3)]), Row([4]))
        self.assertRefused(Row([3, 3]), [("off", 2), ("off", 3)])
        self.assertRefused(Row([2]), [("off", 2), ("off", 2)])
        self.assertRefused(Row([1]), [("off", 1), ("off", 1)])
        self.assertRefused(Row([2, 2]), [("pass", 2, 2), ("pass", 2, 2)])

    def test_nothing_can_be_done_to_the_empty_row(self):
        for move in [("off", 0), ("off", 1), ("pass", 0, 0), ("pass", 1, 1)]:
            self.assertRefused(Row([]), [move])

    def test_any_other_value_is_refused(self):
        for move in NO_MOVES:
            with self.subTest(move=move):
                self.assertRefused(Row([3, 1, 1]), [move])
                self.assertRefused(Row([3, 1, 1]), [("off", 3), ("off", 2), ("off", 1), move])
                self.assertRefused(Row([3, 1, 1]), [move, ("off", 1)])

    def test_just_the_allowed_moves_of_all_small_rows(self):
        numbers = range(-1, 6)
        tried = [("off", a) for a in numbers] + [("pass", a, b) for a in numbers for b in numbers]
        for items in small.all_rows(4, 4):
            steps = small.less_steps(items)
            for move in tried:
                if move in steps:
                    self.assertEqual(less_moved(row_of(items), [move]), row_of(steps[move]))
                else:
                    self.assertRefused(row_of(items), [move])


class EvenMoved(unittest.TestCase):
    def assertRefused(self, row, moves, lines):
        with self.assertRaises(InvalidMove):
            even_moved(row, moves, lines)

    def test_no_moves(self):
        self.assertEqual(even_moved(Row([3, 1]), [], 2), Row([3, 1]))
        self.assertEqual(even_moved(Row([]), [], 1), Row([]))

    def test_off(self):
        self.assertEqual(even_moved(Row([3, 1]), [("off", 3)], 2), Row([2, 1]))
        self.assertEqual(even_moved(Row([3, 1]), [("off", 1)], 2), Row([3]))
        self.assertEqual(even_moved(Row([1]), [("off", 1)], 1), Row([]))

    def test_pass(self):
        self.assertEqual(even_moved(Row([3, 1]), [("pass", 3, 1)], 2), Row([2, 2]))
        self.assertEqual(even_moved(Row([5, 2, 1]), [("pass", 5, 1)], 3), Row([4, 2, 2]))

    def test_the_other_item_must_be_at_least_2_less(self):
        self.assertRefused(Row([3, 2]), [("pass", 3, 2)], 2)
        self.assertRefused(Row([2, 2]), [("pass", 2, 2)], 2)
        self.assertRefused(Row([3, 1]), [("pass", 1, 3)], 2)
        self.assertRefused(Row([1]), [("pass", 1, 0)], 2)

    def test_an_empty_line(self):
        self.assertEqual(even_moved(Row([2]), [("pass", 2, 0)], 2), Row([1, 1]))
        self.assertEqual(even_moved(Row([4, 1]), [("pass", 4, 0)], 3), Row([3, 1, 1]))
        self.assertRefused(Row([2]), [("pass", 2, 0)], 1)
        self.assertRefused(Row([4, 1]), [("pass", 4, 0)], 2)

    def test_an_empty_line_is_looked_at_at_its_time(self):
        self.assertRefused(Row([4]), [("pass", 4, 0), ("pass", 3, 0)], 2)
        self.assertEqual(even_moved(Row([4, 1]), [("off", 1), ("pass", 4, 0)], 2), Row([3, 1]))
        self.assertRefused(Row([4, 1]), [("pass", 4, 0), ("off", 1)], 2)

    def test_invalid_lines(self):
        for moves in ([], [("off", 1)], ["no move"]):
            with self.assertRaises(InvalidLines):
                even_moved(Row([1, 1]), moves, 1)
            with self.assertRaises(InvalidLines):
                even_moved(Row([3, 1, 1]), moves, 2)

    def test_any_other_value_is_refused(self):
        for move in NO_MOVES:
            with self.subTest(move=move):
                self.assertRefused(Row([3, 1, 1]), [move], 3)
                self.assertRefused(Row([3, 1, 1]), [move], 4)
                self.assertRefused(Row([3, 1, 1]), [("off", 3), ("off", 2), move], 3)
                self.assertRefused(Row([3, 1, 1]), [move, ("off", 1)], 4)

    def test_just_the_allowed_moves_of_all_small_rows(self):
        numbers = range(-1, 6)
        tried = [("off", a) for a in numbers] + [("pass", a, b) for a in numbers for b in numbers]
        for items in small.all_rows(3, 4):
            for lines in range(max(1, len(items)), 5):
                steps = small.even_steps(items, lines)
                for move in tried:
                    if move in steps:
                        self.assertEqual(even_moved(row_of(items), [move], lines), row_of(steps[move]))
                    else:
                        self.assertRefused(row_of(items), [move], lines)


class LessMoves(unittest.TestCase):
    def walk(self, moves, start):
        """The row behind the moves, each of them looked up among those that DOC.md allows."""
        row = start
        for move in moves:
            steps = small.less_steps(row)
            self.assertIn(move, steps)
            row = steps[move]
        return row

    def test_the_example_of_the_interface(self):
        self.assertEqual(less_moves(Row([3, 1]), Row([2, 2])), [("pass", 2, 2)])

    def test_equal_rows_need_no_moves(self):
        for items in small.all_rows(3, 3):
            self.assertEqual(less_moves(row_of(items), row_of(items)), [])

    def test_not_fewer(self):
        for one, other in [([2], [1]), ([2, 2], [3, 1]), ([1], []), ([1, 1, 1], [3]), ([4, 2, 2], [4, 3, 1])]:
            with self.assertRaises(NotFewer):
                less_moves(Row(one), Row(other))

    def test_all_small_rows(self):
        rows = small.all_rows(4, 5)
        for y in rows:
            found = small.reached(y, small.less_steps)
            for x in rows:
                one, other = row_of(x), row_of(y)
                self.assertEqual(one.fewer(other), x in found)
                if x not in found:
                    self.assertIsNotNone(not_fewer(one, other))
                    with self.assertRaises(NotFewer):
                        less_moves(one, other)
                    continue
                moves = less_moves(one, other)
                self.assertIs(type(moves), list)
                self.assertEqual(self.walk(moves, y), x)
                self.assertEqual(less_moved(other, moves), one)

    def test_rows_up_to_the_limit(self):
        self.check([12] * 8, [12] * 8)
        self.check([], [12] * 8)
        self.check([1] * 8, [12] * 8)
        self.check([12, 12, 12, 1], [5, 5, 5, 5, 5, 4, 4, 4])
        self.check([12, 9, 8, 5, 2, 1], [8, 7, 6, 5, 5, 4, 3, 2])

    def test_rows_beyond_the_limit(self):
        self.check([10], [1] * 10)
        self.check([40, 20], [15] * 4)
        self.check([13, 3, 2], [3] * 9)

    def check(self, one, other):
        moves = less_moves(Row(one), Row(other))
        self.assertEqual(list(self.walk(moves, tuple(other))), one)
        self.assertEqual(less_moved(Row(other), moves).parts, one)


class EvenMoves(unittest.TestCase):
    def walk(self, moves, start, lines):
        """The row behind the moves, each of them looked up among those that DOC.md allows."""
        row = start
        for move in moves:
            steps = small.even_steps(row, lines)
            self.assertIn(move, steps)
            row = steps[move]
            self.assertLessEqual(len(row), lines)
        return row

    def test_moves(self):
        self.assertEqual(even_moves(Row([2, 2]), Row([3, 1]), 2), [("pass", 3, 1)])
        self.assertEqual(even_moves(Row([1, 1]), Row([2]), 2), [("pass", 2, 0)])
        self.assertEqual(even_moves(Row([]), Row([1]), 1), [("off", 1)])

    def test_equal_rows_need_no_moves(self):
        for items in small.all_rows(3, 3):
            self.assertEqual(even_moves(row_of(items), row_of(items), 3), [])

    def test_not_evener(self):
        for one, other in [([2], [1]), ([3, 1], [2, 2]), ([1], []), ([3], [1, 1, 1]), ([2, 2, 2], [3, 2])]:
            with self.assertRaises(NotEvener):
                even_moves(Row(one), Row(other), 3)

    def test_invalid_lines(self):
        for one, other, lines in [([1, 1], [2], 1), ([1], [1, 1], 1), ([1, 1, 1], [1, 1, 1], 2), ([9, 9], [1], 1)]:
            with self.assertRaises(InvalidLines):
                even_moves(Row(one), Row(other), lines)

    def test_as_many_items_as_lines_are_allowed(self):
        self.assertEqual(even_moves(Row([1, 1]), Row([1, 1]), 2), [])
        self.assertEqual(even_moved(Row([1, 1]), [("off", 1)], 2), Row([1]))

    def test_all_small_rows(self):
        for lines in range(1, 5):
            rows = small.all_rows(lines, 5)
            for y in rows:
                found = small.reached(y, lambda row: small.even_steps(row, lines))
                for x in rows:
                    self.check_pair(x, y, lines, x in found)

    def test_more_lines_than_items(self):
        for x in small.all_rows(2, 4):
            for y in small.all_rows(2, 4):
                found = small.reached(y, lambda row: small.even_steps(row, 5))
                self.check_pair(x, y, 5, x in found)

    def check_pair(self, x, y, lines, leads):
        one, other = row_of(x), row_of(y)
        self.assertEqual(one.evener(other), leads)
        if not leads:
            self.assertIsNotNone(not_evener(one, other))
            with self.assertRaises(NotEvener):
                even_moves(one, other, lines)
            return
        moves = even_moves(one, other, lines)
        self.assertIs(type(moves), list)
        self.assertEqual(self.walk(moves, y, lines), x)
        self.assertEqual(even_moved(other, moves, lines), one)

    def test_rows_up_to_the_limit(self):
        self.check_pair((), (12,) * 6, 6, True)
        self.check_pair((6, 6, 6, 6, 6, 6), (12, 12, 12), 6, True)
        self.check_pair((5, 5, 5, 5, 4, 4), (12, 9, 6, 3, 2, 1), 6, True)

    def test_rows_beyond_the_limit(self):
        self.check_pair((2,) * 10, (20,), 10, True)
        self.check_pair((15, 15, 15, 14), (40, 20), 7, True)


class CopiesAndSameResults(unittest.TestCase):
    def test_arguments_are_not_changed(self):
        one, other, less = Row([4, 1]), Row([2, 2, 2]), [("off", 2), ("pass", 1, 2)]
        less_moves(one, other)
        less_moved(other, less)
        even_moves(Row([2, 2]), one, 3)
        even = [("pass", 4, 0)]
        even_moved(one, even, 3)
        self.assertEqual((one.parts, other.parts), ([4, 1], [2, 2, 2]))
        self.assertEqual(less, [("off", 2), ("pass", 1, 2)])
        self.assertEqual(even, [("pass", 4, 0)])

    def test_the_same_call_returns_the_same_result(self):
        one, other = Row([5, 2]), Row([3, 3, 2, 1])
        first = less_moves(one, other)
        kept = list(first)
        first.clear()
        self.assertEqual(less_moves(one, other), kept)
        one, other = Row([3, 2, 2]), Row([6, 3])
        first = even_moves(one, other, 4)
        kept = list(first)
        first.append("no move")
        self.assertEqual(even_moves(one, other, 4), kept)

    def test_moves_and_rows_are_of_the_kinds_of_the_interface(self):
        moves = less_moves(Row([5, 1]), Row([4, 4])) + even_moves(Row([3, 2]), Row([6]), 2)
        for move in moves:
            self.assertIs(type(move), tuple)
        self.assertIs(type(less_moved(Row([2]), [("off", 2)])), Row)
        self.assertIs(type(even_moved(Row([2]), [], 1)), Row)


if __name__ == "__main__":
    unittest.main()
