"""Promises [5] (d), [8], [9] and [10]: deeds by rank; of [2], [3] and [4] what holds of deeds."""

import unittest

import small
from fewestwait.deeds import breaks_evener, breaks_fewer, keeps_evener, keeps_fewer, line_deed, work_deed
from fewestwait.errors import InvalidDeed, InvalidLines
from fewestwait.rows import Row

GREAT = 10 ** 30 - 1

# No deeds at all, neither for works nor for lines.
NO_DEEDS = [
    None, True, 1, "longest", "tick", "serve", b"tick", [], (), {}, {"tick": 1}, object(), Row([1]), small.EqualToAll(),
    ["longest"], ["tick"], ["serve", 1], ["come", 1], ["join", 1], ("serve",), ("come",), ("join",),
    ("longest", 1), ("tick", 1), ("serve", 1, 1), ("come", 1, 1), ("join", 1, 1), ("serve", 1, None),
    ("Serve", 1), ("TICK",), ("longest ",), ("", 1), ("",), ("leave", 1), ("off", 1), (1, "serve"), (b"serve", 1),
    (None,), (1,), (True,), (None, 1), (("serve", 1),), (("tick",),), (small.EqualToAll(),), (small.EqualToAll(), 1),
    ("serve", 0), ("serve", -1), ("serve", -GREAT), ("join", 0), ("join", -1), ("come", 0), ("come", -1),
    ("serve", True), ("come", True), ("join", True), ("serve", False), ("come", False), ("join", False),
    ("serve", 1.0), ("come", 2.5), ("join", 1.0), ("serve", "1"), ("come", "1"), ("join", "1"), ("serve", None),
    ("serve", [1]), ("come", (1,)), ("serve", small.EqualToAll()), ("come", small.EqualToAll()), ("longest", None),
]
NO_WORK_DEEDS = NO_DEEDS + [("tick",), ("join", 1), ("join", 2)]
NO_LINE_DEEDS = NO_DEEDS + [("longest",), ("come", 1), ("come", 2)]


def row_of(items):
    return Row(list(items))


def work_deeds(ranks, works):
    return (
        [("serve", rank) for rank in range(1, ranks + 1)]
        + [("longest",)]
        + [("come", work) for work in range(1, works + 1)]
    )


def line_deeds(lines):
    return [(word, rank) for word in ("join", "serve") for rank in range(1, lines + 1)] + [("tick",)]


class WorkDeeds(unittest.TestCase):
    def test_serve_counts_from_the_least_item(self):
        row = Row([5, 3, 2])
        self.assertEqual(work_deed(row, ("serve", 1)), Row([5, 3, 1]))
        self.assertEqual(work_deed(row, ("serve", 2)), Row([5, 2, 2]))
        self.assertEqual(work_deed(row, ("serve", 3)), Row([4, 3, 2]))

    def test_ranks_beyond_the_items_serve_the_greatest_one(self):
        for rank in (4, 5, 30, 31, GREAT):
            self.assertEqual(work_deed(Row([5, 3, 2]), ("serve", rank)), Row([4, 3, 2]))

    def test_longest(self):
        self.assertEqual(work_deed(Row([5, 3, 2]), ("longest",)), Row([4, 3, 2]))
        self.assertEqual(work_deed(Row([5, 5, 2]), ("longest",)), Row([5, 4, 2]))

    def test_come(self):
        self.assertEqual(work_deed(Row([5, 2]), ("come", 3)), Row([5, 3, 2]))
        self.assertEqual(work_deed(Row([]), ("come", 1)), Row([1]))

    def test_equal_items(self):
        for rank in (1, 2, 3):
            self.assertEqual(work_deed(Row([2, 2, 2]), ("serve", rank)), Row([2, 2, 1]))

    def test_an_item_that_becomes_0_is_gone(self):
        self.assertEqual(work_deed(Row([3, 1]), ("serve", 1)), Row([3]))
        self.assertEqual(work_deed(Row([1, 1]), ("serve", 2)), Row([1]))
        self.assertEqual(work_deed(Row([1]), ("longest",)), Row([]))

    def test_nothing_happens_to_the_empty_row(self):
        for deed in [("serve", 1), ("serve", 2), ("serve", 30), ("longest",)]:
            self.assertEqual(work_deed(Row([]), deed), Row([]))

    def test_numbers_of_30_digits(self):
        self.assertEqual(work_deed(Row([GREAT, GREAT]), ("serve", 1)).parts, [GREAT, GREAT - 1])
        self.assertEqual(work_deed(Row([GREAT, 2]), ("serve", GREAT)).parts, [GREAT - 1, 2])
        self.assertEqual(work_deed(Row([2]), ("come", GREAT)).parts, [GREAT, 2])

    def test_limits_are_not_checked(self):
        self.assertEqual(work_deed(Row([101] * 61), ("serve", 40)).parts, [101] * 60 + [100])
        self.assertEqual(work_deed(Row([7] * 60), ("come", 101)).parts, [101] + [7] * 60)

    def test_all_small_rows(self):
        for items in small.all_rows(4, 4):
            for deed in work_deeds(6, 5):
                self.assertEqual(tuple(work_deed(row_of(items), deed)), small.work_deed(items, deed), (items, deed))

    def test_any_other_value_is_refused(self):
        for deed in NO_WORK_DEEDS:
            with self.subTest(deed=deed):
                for row in (Row([]), Row([3, 1, 1])):
                    with self.assertRaises(InvalidDeed):
                        work_deed(row, deed)


class LineDeeds(unittest.TestCase):
    def test_join_counts_from_the_greatest_item(self):
        row = Row([5, 3, 2])
        self.assertEqual(line_deed(row, 4, ("join", 1)), Row([6, 3, 2]))
        self.assertEqual(line_deed(row, 4, ("join", 2)), Row([5, 4, 2]))
        self.assertEqual(line_deed(row, 4, ("join", 3)), Row([5, 3, 3]))

    def test_empty_lines_stand_last(self):
        self.assertEqual(line_deed(Row([5, 3]), 4, ("join", 3)), Row([5, 3, 1]))
        self.assertEqual(line_deed(Row([5, 3]), 4, ("join", 4)), Row([5, 3, 1]))
        self.assertEqual(line_deed(Row([]), 2, ("join", 1)), Row([1]))
        self.assertEqual(line_deed(Row([]), 2, ("join", 2)), Row([1]))

    def test_serve(self):
        row = Row([5, 3, 1])
        self.assertEqual(line_deed(row, 4, ("serve", 1)), Row([4, 3, 1]))
        self.assertEqual(line_deed(row, 4, ("serve", 2)), Row([5, 2, 1]))
        self.assertEqual(line_deed(row, 4, ("serve", 3)), Row([5, 3]))

    def test_an_empty_line_is_not_served(self):
        self.assertEqual(line_deed(Row([5, 3]), 4, ("serve", 3)), Row([5, 3]))
        self.assertEqual(line_deed(Row([5, 3]), 4, ("serve", 4)), Row([5, 3]))
        self.assertEqual(line_deed(Row([]), 1, ("serve", 1)), Row([]))

    def test_tick(self):
        self.assertEqual(line_deed(Row([5, 3, 1, 1]), 4, ("tick",)), Row([4, 2]))
        self.assertEqual(line_deed(Row([1]), 1, ("tick",)), Row([]))
        self.assertEqual(line_deed(Row([]), 3, ("tick",)), Row([]))

    def test_all_small_rows(self):
        for lines in range(1, 5):
            for items in small.all_rows(lines, 4):
                for deed in line_deeds(lines):
                    behind = line_deed(row_of(items), lines, deed)
                    self.assertEqual(tuple(behind), small.line_deed(items, lines, deed), (items, lines, deed))

    def test_limits_are_not_checked(self):
        self.assertEqual(line_deed(Row([GREAT, 1]), 40, ("join", 35)).parts, [GREAT, 1, 1])
        self.assertEqual(line_deed(Row([GREAT, 1]), 40, ("tick",)).parts, [GREAT - 1])
        self.assertEqual(line_deed(Row([9] * 8), 8, ("serve", 8)).parts, [9] * 7 + [8])

    def test_any_other_value_is_refused(self):
        for deed in NO_LINE_DEEDS:
            with self.subTest(deed=deed):
                for row in (Row([]), Row([3, 1, 1])):
                    with self.assertRaises(InvalidDeed):
                        line_deed(row, 3, deed)

    def test_ranks_go_up_to_the_number_of_lines(self):
        for lines in (1, 2, 6):
            for word in ("join", "serve"):
                line_deed(Row([1]), lines, (word, lines))
                for rank in (lines + 1, GREAT):
                    with self.assertRaises(InvalidDeed):
                        line_deed(Row([1]), lines, (word, rank))

    def test_more_items_than_lines(self):
        for deed in [("tick",), ("join", 1), ("serve", 2)]:
            with self.assertRaises(InvalidLines):
                line_deed(Row([3, 1, 1]), 2, deed)
        self.assertEqual(line_deed(Row([3, 1]), 2, ("join", 2)), Row([3, 2]))

    def test_invalid_lines_comes_ahead_of_invalid_deed(self):
        for deed in NO_LINE_DEEDS + [("join", 3)]:
            with self.assertRaises(InvalidLines):
                line_deed(Row([3, 1, 1]), 2, deed)


class KeepsFewer(unittest.TestCase):
    def test_examples(self):
        self.assertIs(keeps_fewer(("serve", 1), ("serve", 7)), True)
        self.assertIs(keeps_fewer(("serve", 3), ("longest",)), True)
        self.assertIs(keeps_fewer(("longest",), ("longest",)), True)
        self.assertIs(keeps_fewer(("serve", 2), ("serve", 2)), False)
        self.assertIs(keeps_fewer(("longest",), ("serve", 1)), False)
        self.assertIs(keeps_fewer(("come", 2), ("come", 2)), True)
        self.assertIs(keeps_fewer(("come", 3), ("come", 2)), False)
        self.assertIs(keeps_fewer(("come", 1), ("serve", 1)), False)

    def test_the_answers_are_those_of_all_small_rows(self):
        # A pair with serving the rank r on the other side shows itself by rows of up to r + 1 items up to r + 1.
        rows = small.all_rows(5, 5)
        kept = small.pairs_kept(rows, small.tail, work_deeds(4, 3), small.work_deed)
        for (deed, other), keeps in kept.items():
            with self.subTest(deed=deed, other=other):
                self.assertIs(keeps_fewer(deed, other), keeps)

    def test_no_small_rows_break_what_is_kept_with_greater_ranks(self):
        rows = small.all_rows(4, 4)
        kept = small.pairs_kept(rows, small.tail, work_deeds(7, 6), small.work_deed)
        for (deed, other), keeps in kept.items():
            if keeps_fewer(deed, other):
                self.assertTrue(keeps, (deed, other))

    def test_two_rows_show_each_pair_that_does_not_keep_the_order(self):
        deeds = work_deeds(9, 4) + [("serve", 30), ("serve", 31), ("come", 100), ("come", 101)]
        for deed in deeds:
            for other in deeds:
                self.check_rows(deed, other)

    def check_rows(self, deed, other):
        found = breaks_fewer(deed, other)
        self.assertIs(found is None, keeps_fewer(deed, other))
        if found is None:
            return
        self.assertIs(type(found), tuple)
        one, two = found
        self.assertEqual((type(one), type(two)), (Row, Row))
        x, y = tuple(one.parts), tuple(two.parts)
        self.assertIsNone(small.first_greater(x, y, small.tail), (deed, other))
        behind = small.work_deed(x, deed), small.work_deed(y, other)
        self.assertIsNotNone(small.first_greater(*behind, small.tail), (deed, other))

    def test_works_of_30_digits(self):
        self.assertTrue(keeps_fewer(("come", GREAT - 1), ("come", GREAT)))
        self.assertFalse(keeps_fewer(("come", GREAT), ("come", GREAT - 1)))
        self.assertTrue(keeps_fewer(("serve", 30), ("come", GREAT)))
        self.check_rows(("come", GREAT), ("come", GREAT - 1))
        self.check_rows(("come", GREAT), ("serve", 30))

    def test_any_other_value_is_refused(self):
        for deed in NO_WORK_DEEDS:
            for pair in [(deed, ("longest",)), (("come", 1), deed), (("serve", 1), deed), (deed, deed)]:
                for call in (keeps_fewer, breaks_fewer):
                    with self.subTest(pair=pair, call=call), self.assertRaises(InvalidDeed):
                        call(*pair)


class KeepsEvener(unittest.TestCase):
    def test_examples(self):
        self.assertIs(keeps_evener(3, ("join", 3), ("join", 1)), True)
        self.assertIs(keeps_evener(3, ("join", 2), ("join", 2)), True)
        self.assertIs(keeps_evener(3, ("join", 1), ("join", 2)), False)
        self.assertIs(keeps_evener(3, ("tick",), ("tick",)), True)
        self.assertIs(keeps_evener(3, ("serve", 1), ("tick",)), False)
        self.assertIs(keeps_evener(1, ("serve", 1), ("tick",)), True)
        self.assertIs(keeps_evener(3, ("serve", 1), ("serve", 3)), True)
        self.assertIs(keeps_evener(3, ("serve", 3), ("serve", 1)), False)
        self.assertIs(keeps_evener(3, ("join", 3), ("tick",)), False)

    def test_the_answers_are_those_of_all_small_rows(self):
        for lines, greatest in [(1, 5), (2, 5), (3, 5), (4, 4), (5, 3), (6, 2)]:
            rows = small.all_rows(lines, greatest)

            def behind(row, deed):
                return small.line_deed(row, lines, deed)

            kept = small.pairs_kept(rows, small.head, line_deeds(lines), behind)
            for (deed, other), keeps in kept.items():
                with self.subTest(lines=lines, deed=deed, other=other):
                    self.assertIs(keeps_evener(lines, deed, other), keeps)

    def test_two_rows_show_each_pair_that_does_not_keep_the_order(self):
        for lines in range(1, 9):
            for deed in line_deeds(lines):
                for other in line_deeds(lines):
                    self.check_rows(lines, deed, other)

    def check_rows(self, lines, deed, other):
        found = breaks_evener(lines, deed, other)
        self.assertIs(found is None, keeps_evener(lines, deed, other))
        if found is None:
            return
        self.assertIs(type(found), tuple)
        one, two = found
        self.assertEqual((type(one), type(two)), (Row, Row))
        self.assertLessEqual(max(len(one), len(two)), lines)
        x, y = tuple(one.parts), tuple(two.parts)
        self.assertIsNone(small.first_greater(x, y, small.head), (lines, deed, other))
        behind = small.line_deed(x, lines, deed), small.line_deed(y, lines, other)
        self.assertIsNotNone(small.first_greater(*behind, small.head), (lines, deed, other))

    def test_any_other_value_is_refused(self):
        for deed in NO_LINE_DEEDS + [("join", 4), ("serve", 4), ("join", GREAT)]:
            for pair in [(deed, ("tick",)), (("tick",), deed), (("join", 1), deed), (deed, deed)]:
                for call in (keeps_evener, breaks_evener):
                    with self.subTest(pair=pair, call=call), self.assertRaises(InvalidDeed):
                        call(3, *pair)


class CopiesAndSameResults(unittest.TestCase):
    def test_arguments_are_not_changed(self):
        row = Row([3, 1])
        for deed in work_deeds(3, 2):
            work_deed(row, deed)
        for deed in line_deeds(3):
            line_deed(row, 3, deed)
        self.assertEqual(row.parts, [3, 1])

    def test_what_is_returned_may_be_changed_afterwards(self):
        row = Row([3, 1])
        behind = work_deed(row, ("come", 2))
        behind.parts.clear()
        self.assertEqual(behind.parts, [3, 2, 1])
        kept = line_deed(row, 2, ("serve", 2))
        kept.parts.append(7)
        self.assertEqual((kept.parts, row.parts), ([3], [3, 1]))

    def test_the_same_call_returns_the_same_result(self):
        for deed in work_deeds(3, 2):
            for other in work_deeds(3, 2):
                self.assertEqual(breaks_fewer(deed, other), breaks_fewer(deed, other))
        for deed in line_deeds(3):
            for other in line_deeds(3):
                self.assertEqual(breaks_evener(3, deed, other), breaks_evener(3, deed, other))

    def test_kinds(self):
        self.assertIs(type(work_deed(Row([2]), ("serve", 1))), Row)
        self.assertIs(type(line_deed(Row([2]), 1, ("tick",))), Row)


if __name__ == "__main__":
    unittest.main()
