"""Promises [17] and [5] (c): lines; of [2] and [4] what holds of them."""

import unittest
from itertools import product

import small
from fewestwait.errors import InvalidLines
from fewestwait.lines import common, lengths, lines_table, round_choices, shortest_choices, stays
from fewestwait.rows import Row

GREAT = 10 ** 30 - 1
WITH_CHOICES = [lengths, lines_table, stays]
NO_LINES = [None, True, False, -1, 2, 3, GREAT, -GREAT, 0.0, 1.0, "0", "", b"0", [], [0], (), (0,), {}, object(),
            small.EqualToAll(), Row([1])]

# No one of them is a list of choices for two comings at two lines.
NO_CHOICES = [
    None, True, 0, 2, "", "01", b"\x00\x01", (), (0, 1), {}, {0: 1, 1: 0}, {0, 1}, range(2), object(),
    small.EqualToAll(), Row([1, 1]), [], [0], [1], [0, 1, 0], [0, 0, 0], [[0, 1]], [(0, 1)], [True, False], [2, 2],
    [-1, -1],
] + [[0, line] for line in NO_LINES] + [[line, 1] for line in NO_LINES]


def all_events(most):
    """All lists of up to so many events."""
    return [list(events) for size in range(most + 1) for events in product(["tick", "come"], repeat=size)]


def all_choices(lines, events):
    return [list(choices) for choices in product(range(lines), repeat=events.count("come"))]


def follow(lines, events, choose):
    """A run, person by person: lists of the lines at all times, and the ticks of coming and of being served.

    The lines hold people; `choose` tells the line from the number of the person and the lines.
    """
    now, times, came, served = [[] for _ in range(lines)], [[0] * lines], [], {}
    ticks = 0
    for event in events:
        if event == "come":
            now[choose(len(came), now)].append(len(came))
            came.append(ticks)
        else:
            ticks += 1
            for line in now:
                if line:
                    served[line.pop(0)] = ticks
        times.append([len(line) for line in now])
    return times, [served[person] - tick if person in served else None for person, tick in enumerate(came)]


def chosen(choices):
    return lambda person, now: choices[person]


def join_shortest(person, now):
    return sorted(range(len(now)), key=lambda line: (len(now[line]), line))[0]


def choices_of(lines, events, choose):
    """The choices that a rule makes, read off its run."""
    found = []
    follow(lines, events, lambda person, now: found.append(choose(person, now)) or found[-1])
    return found


def people_in_common(lines, events):
    """The numbers of people in one common line, at all times: at each tick the first ones leave."""
    line, times = [], [0]
    for event in events:
        line = line + [None] if event == "come" else line[lines:]
        times.append(len(line))
    return times


def as_row(now):
    return Row([length for length in now if length > 0])


SMALL = [(lines, events) for lines in (1, 2, 3) for events in all_events(5)]
RUNS = [(lines, events, choices) for lines, events in SMALL for choices in all_choices(lines, events)]
LONG = ["come", "come", "tick", "come", "come", "come", "tick", "tick", "come", "come"] * 6


class Lengths(unittest.TestCase):
    def test_ordinary(self):
        events = ["come", "come", "come", "tick", "come"]
        self.assertEqual(lengths(3, events, [0, 0, 2, 2]), [1, 0, 1])
        self.assertEqual(lengths(3, events[:3], [0, 0, 2]), [2, 0, 1])
        self.assertEqual(lengths(1, events, [0, 0, 0, 0]), [3])

    def test_no_events(self):
        for lines in range(1, 7):
            self.assertEqual(lengths(lines, [], []), [0] * lines)

    def test_ticks_at_empty_lines(self):
        self.assertEqual(lengths(2, ["tick", "tick", "come", "tick", "tick"], [1]), [0, 0])
        self.assertEqual(lengths(2, ["tick", "tick", "come"], [1]), [0, 1])

    def test_all_small_runs(self):
        for lines, events, choices in RUNS:
            self.assertEqual(lengths(lines, events, choices), follow(lines, events, chosen(choices))[0][-1])


class Choices(unittest.TestCase):
    def test_ordinary(self):
        events = ["come", "come", "tick", "come", "come", "come"]
        self.assertEqual(shortest_choices(2, events), [0, 1, 0, 1, 0])
        self.assertEqual(shortest_choices(3, ["come"] * 7), [0, 1, 2, 0, 1, 2, 0])
        self.assertEqual(shortest_choices(2, ["come", "come", "come", "tick", "come"]), [0, 1, 0, 1])
        self.assertEqual(round_choices(3, ["come", "tick", "come", "come", "tick", "come", "come"]), [0, 1, 2, 0, 1])

    def test_round_goes_on_where_shortest_begins_again(self):
        events = ["come", "tick", "come", "tick", "come"]
        self.assertEqual(shortest_choices(2, events), [0, 0, 0])
        self.assertEqual(round_choices(2, events), [0, 1, 0])

    def test_nobody_and_one_line(self):
        for call in (shortest_choices, round_choices):
            self.assertEqual(call(4, []), [])
            self.assertEqual(call(4, ["tick", "tick"]), [])
            self.assertEqual(call(1, ["come", "tick", "come"]), [0, 0])

    def test_all_small_events(self):
        for lines, events in SMALL + [(lines, LONG) for lines in range(1, 7)]:
            self.assertEqual(shortest_choices(lines, events), choices_of(lines, events, join_shortest))
            rounds = [0, 1, 2, 3, 4, 5][:lines] * 60
            self.assertEqual(round_choices(lines, events), rounds[:events.count("come")])


class Common(unittest.TestCase):
    def test_ordinary(self):
        self.assertEqual(common(2, ["come", "come", "come", "tick", "come"]), 2)
        self.assertEqual(common(2, ["come", "tick", "come"]), 1)
        self.assertEqual(common(3, ["come"] * 7 + ["tick"] * 2), 1)

    def test_no_events_and_nobody(self):
        self.assertEqual(common(3, []), 0)
        self.assertEqual(common(3, ["tick"]), 0)

    def test_all_small_events(self):
        for lines, events in SMALL + [(lines, LONG) for lines in range(1, 7)]:
            self.assertEqual(common(lines, events), people_in_common(lines, events)[-1])

    def test_one_line_is_the_common_line(self):
        for events in all_events(7):
            self.assertEqual([common(1, events)], lengths(1, events, [0] * events.count("come")))


class LinesTable(unittest.TestCase):
    def test_ordinary(self):
        self.assertEqual(
            lines_table(2, ["come", "come", "tick"], [1, 1]),
            [(Row([]), Row([]), 0), (Row([1]), Row([1]), 1), (Row([1, 1]), Row([2]), 2), (Row([]), Row([1]), 0)],
        )

    def test_no_events(self):
        self.assertEqual(lines_table(4, [], []), [(Row([]), Row([]), 0)])

    def test_all_small_runs(self):
        for lines, events, choices in RUNS:
            shortest = [as_row(now) for now in follow(lines, events, join_shortest)[0]]
            rows = [as_row(now) for now in follow(lines, events, chosen(choices))[0]]
            expected = list(zip(shortest, rows, people_in_common(lines, events)))
            self.assertEqual(lines_table(lines, events, choices), expected)

    def test_kinds_of_values(self):
        found = lines_table(2, LONG, [0] * LONG.count("come"))
        self.assertIs(type(found), list)
        for item in found:
            self.assertIs(type(item), tuple)
            self.assertEqual([type(part) for part in item], [Row, Row, int])

    def test_shortest_is_evener_and_the_common_line_has_the_fewest_people(self):
        for lines, events, choices in RUNS + [(6, LONG, round_choices(6, LONG)), (3, LONG, [2] * LONG.count("come"))]:
            for one, other, people in lines_table(lines, events, choices):
                self.assertTrue(one.evener(other))
                self.assertLessEqual(sum(one), sum(other))
                self.assertLessEqual(people, sum(one))


class Stays(unittest.TestCase):
    def test_ordinary(self):
        events = ["come", "come", "come", "tick", "come", "tick", "tick"]
        self.assertEqual(stays(2, events, [0, 0, 1, 1]), [1, 2, 1, 1])
        self.assertEqual(stays(2, events, [0, 0, 0, 0]), [1, 2, 3, None])

    def test_people_who_are_still_there(self):
        self.assertEqual(stays(1, ["come", "come", "tick"], [0, 0]), [1, None])
        self.assertEqual(stays(2, ["tick", "come"], [1]), [None])
        self.assertEqual(stays(1, ["come", "come", "tick", "tick"], [0, 0]), [1, 2])

    def test_nobody(self):
        self.assertEqual(stays(2, [], []), [])
        self.assertEqual(stays(2, ["tick", "tick"], []), [])

    def test_all_small_runs(self):
        for lines, events, choices in RUNS:
            self.assertEqual(stays(lines, events, choices), follow(lines, events, chosen(choices))[1])

    def test_a_long_run(self):
        for lines in range(1, 7):
            choices = [person * person % lines for person in range(LONG.count("come"))]
            self.assertEqual(stays(lines, LONG, choices), follow(lines, LONG, chosen(choices))[1])


class InvalidChoices(unittest.TestCase):
    def test_any_other_value_is_refused(self):
        for call in WITH_CHOICES:
            for events in (["come", "come"], ["tick", "come", "tick", "come", "tick"]):
                for choices in NO_CHOICES:
                    with self.subTest(call=call, choices=choices), self.assertRaises(InvalidLines):
                        call(2, events, choices)

    def test_choices_without_comings(self):
        for call in WITH_CHOICES:
            for events in ([], ["tick"]):
                for choices in (None, (), {}, "", 0, False, [0], [None], [[]], small.EqualToAll()):
                    with self.subTest(call=call, choices=choices), self.assertRaises(InvalidLines):
                        call(2, events, choices)

    def test_the_number_of_lines_is_no_line(self):
        for call in WITH_CHOICES:
            for lines in range(1, 7):
                call(lines, ["come"], [lines - 1])
                for line in (lines, -1, -lines):
                    with self.assertRaises(InvalidLines):
                        call(lines, ["come"], [line])


class CopiesAndSameResults(unittest.TestCase):
    def test_arguments_are_not_changed(self):
        events, choices = ["come", "tick", "come", "come"], [1, 1, 0]
        for call in WITH_CHOICES:
            call(2, events, choices)
        for call in (shortest_choices, round_choices, common):
            call(2, events)
        self.assertEqual((events, choices), (["come", "tick", "come", "come"], [1, 1, 0]))

    def test_what_is_returned_may_be_changed_afterwards(self):
        events, choices = ["come", "tick", "come", "come"], [1, 1, 0]
        calls = [(call, (2, events, choices)) for call in WITH_CHOICES]
        for call, arguments in calls + [(shortest_choices, (2, events)), (round_choices, (2, events))]:
            first = call(*arguments)
            self.assertIs(type(first), list)
            kept = list(first)
            first[0] = None
            first.append(7)
            self.assertEqual(call(*arguments), kept)


if __name__ == "__main__":
    unittest.main()
