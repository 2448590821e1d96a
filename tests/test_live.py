"""Promises [19] and [5] (g): a live day; of [2], [3] and [4] what holds of it."""

import unittest
from itertools import product

import small
import small_days
from fewestwait.days import check_plan, row_at, waiting
from fewestwait.errors import InvalidWork, NothingToUndo
from fewestwait.live import LiveDay
from fewestwait.rows import Row
from fewestwait.rules import First, Longest, Shortest, Turns, plan_of

GREAT = 10 ** 30 - 1
RULES = {"shortest": Shortest, "first": First, "longest": Longest, "turns": Turns}
NO_WORKS = [None, True, False, 0, -1, -GREAT, 0.0, 1.0, 1.5, "1", "", b"1", [], [1], (), (1,), {}, {1}, object(),
            small.EqualToAll(), Row([1])]

# A deed is a work that comes, or None for a minute that is over.
DEEDS = [list(deeds) for size in range(7) for deeds in product([None, 1, 2], repeat=size)]
LONG = [3, 1, None, 4, None, None, 1, 5, None, None, 9, None, 2, None, 6, None, None, None, 5, None, None, 3] * 5


def do(day, deeds):
    """Do the deeds one after the other, and return what they returned."""
    return [day.over() if deed is None else day.come(deed) for deed in deeds]


def after(name, deeds):
    day = LiveDay(RULES[name]())
    do(day, deeds)
    return day


def state(day):
    """All that a live day shows."""
    return day.minute, day.row, day.plan, day.comings, day.waiting, len(day)


def comings_of(deeds):
    return [(deeds[:place].count(None), deed) for place, deed in enumerate(deeds) if deed is not None]


def plan_by_rule(name, comings, minutes):
    """The beginning of a rule's plan, with None for each further minute."""
    return (small_days.rule_plan(name, comings) + [None] * minutes)[:minutes]


def state_by_rule(name, deeds):
    """All that is to be shown behind the deeds, by the rule's plan written out without the package."""
    comings, minute = comings_of(deeds), deeds.count(None)
    plan = plan_by_rule(name, comings, minute)
    lefts = [small_days.left_behind(comings, plan[:now]) for now in range(minute + 1)]
    rows = [small_days.row(comings, left, now) for now, left in enumerate(lefts)]
    return minute, Row(rows[-1]), plan, comings, sum(map(len, rows[:-1])), len(deeds)


class AtFirst(unittest.TestCase):
    def test_nothing_is_there(self):
        for rule in RULES.values():
            self.assertEqual(state(LiveDay(rule())), (0, Row([]), [], [], 0, 0))


class Deeds(unittest.TestCase):
    def test_ordinary(self):
        day = LiveDay(Shortest())
        self.assertEqual(day.come(3), 0)
        self.assertEqual(day.over(), 0)
        self.assertEqual(day.come(1), 1)
        self.assertEqual(day.over(), 1)
        self.assertEqual(day.over(), 0)
        self.assertEqual(state(day), (3, Row([1]), [0, 1, 0], [(0, 3), (1, 1)], 4, 5))

    def test_each_rule(self):
        deeds = [3, None, 1, 4] + [None] * 7
        self.assertEqual(after("shortest", deeds).plan, [0, 1, 0, 0, 2, 2, 2, 2])
        self.assertEqual(after("first", deeds).plan, [0, 0, 0, 1, 2, 2, 2, 2])
        self.assertEqual(after("longest", deeds).plan, [0, 2, 2, 0, 2, 0, 1, 2])
        self.assertEqual(after("turns", deeds).plan, [0, 1, 2, 0, 2, 0, 2, 2])

    def test_a_minute_in_which_nobody_is_there(self):
        for rule in RULES.values():
            day = LiveDay(rule())
            self.assertIsNone(day.over())
            self.assertEqual(state(day), (1, Row([]), [None], [], 0, 1))
            self.assertEqual(do(day, [1, None, None, 1]), [0, 0, None, 1])
            self.assertEqual(state(day), (3, Row([1]), [None, 0, None], [(1, 1), (3, 1)], 1, 5))

    def test_turns_go_on_behind_minutes_with_nobody(self):
        deeds = [1, 1, None, None, None, None, 2, 2, None, None]
        self.assertEqual(after("turns", deeds).plan, [0, 1, None, None, 2, 3])
        self.assertEqual(do(after("turns", [1, None, None, 2, None, 3]), [None, None, None]), [2, 1, 2])

    def test_all_small_sequences_of_deeds(self):
        for name in RULES:
            for deeds in DEEDS:
                with self.subTest(rule=name, deeds=deeds):
                    self.assertEqual(state(after(name, deeds)), state_by_rule(name, deeds))

    def test_what_come_and_over_return(self):
        for name in RULES:
            for deeds in DEEDS + [LONG]:
                told = do(LiveDay(RULES[name]()), deeds)
                plan = state_by_rule(name, deeds)[2]
                self.assertEqual([one for one, deed in zip(told, deeds) if deed is None], plan)
                numbers = [one for one, deed in zip(told, deeds) if deed is not None]
                self.assertEqual(numbers, list(range(len(numbers))))

    def test_a_long_day_at_each_deed(self):
        for name in RULES:
            day = LiveDay(RULES[name]())
            for place, deed in enumerate(LONG):
                do(day, [deed])
                self.assertEqual(state(day), state_by_rule(name, LONG[:place + 1]))

    def test_it_goes_as_the_day_that_it_follows(self):
        for rule in RULES.values():
            for deeds in DEEDS:
                live = LiveDay(rule())
                do(live, deeds)
                whole = plan_of(rule(), live.comings)
                self.assertEqual(live.plan, (whole + [None] * live.minute)[:live.minute])
                check_plan(live.comings, live.plan)
                self.assertEqual(live.row, row_at(live.comings, live.plan, live.minute))
                while len(live.row) > 0:
                    live.over()
                self.assertEqual(live.waiting, waiting(live.comings, live.plan))

    def test_a_person_of_a_great_work(self):
        for name in RULES:
            day = after(name, [GREAT, None, 1, None, GREAT - 1, None])
            self.assertEqual(sum(day.row.parts), 2 * GREAT - 3)
            self.assertEqual(day.comings, [(0, GREAT), (1, 1), (2, GREAT - 1)])
            self.assertEqual(day.waiting, 5 if name in ("shortest", "turns") else 6)
        self.assertEqual(after("shortest", [GREAT, GREAT - 1, None]).row, Row([GREAT, GREAT - 2]))
        self.assertEqual(after("longest", [GREAT, GREAT - 1, None]).row, Row([GREAT - 1, GREAT - 1]))


class InvalidWorks(unittest.TestCase):
    def test_any_other_value_is_refused_and_changes_nothing(self):
        for name in RULES:
            for deeds in ([], [2, None, 3]):
                day = after(name, deeds)
                for work in NO_WORKS:
                    with self.subTest(work=work), self.assertRaises(InvalidWork):
                        day.come(work)
                    self.assertEqual(state(day), state(after(name, deeds)))


class Back(unittest.TestCase):
    def test_ordinary(self):
        day = after("shortest", [3, None, 1, None])
        self.assertIsNone(day.back())
        self.assertEqual(state(day), (1, Row([2, 1]), [0], [(0, 3), (1, 1)], 1, 3))
        self.assertIsNone(day.back(count=2))
        self.assertEqual(state(day), (0, Row([3]), [], [(0, 3)], 0, 1))
        day.back(count=1)
        self.assertEqual(state(day), (0, Row([]), [], [], 0, 0))

    def test_the_number_of_deeds_stands_behind_the_star(self):
        with self.assertRaises(TypeError):
            after("first", [1, 2]).back(1)

    def test_count_0(self):
        for deeds in ([], [2, None, 3]):
            day = after("turns", deeds)
            self.assertIsNone(day.back(count=0))
            self.assertEqual(state(day), state(after("turns", deeds)))

    def test_nothing_to_take_back(self):
        for deeds in ([], [2], [2, None, 3]):
            day = after("longest", deeds)
            for count in (len(deeds) + 1, len(deeds) + 2, GREAT):
                with self.assertRaises(NothingToUndo):
                    day.back(count=count)
                self.assertEqual(state(day), state(after("longest", deeds)))
        with self.assertRaises(NothingToUndo):
            LiveDay(First()).back()

    def test_all_small_sequences_of_deeds_taken_back(self):
        for name in RULES:
            for deeds in DEEDS:
                for count in range(len(deeds) + 1):
                    day = after(name, deeds)
                    day.back(count=count)
                    self.assertEqual(state(day), state_by_rule(name, deeds[:len(deeds) - count]))

    def test_all_goes_on_as_if_the_deeds_had_not_been(self):
        further = [2, None, 1, None, None]
        for name in RULES:
            for deeds in [deeds for deeds in DEEDS if len(deeds) < 5]:
                for count in range(len(deeds) + 1):
                    kept = deeds[:len(deeds) - count]
                    day = after(name, deeds)
                    day.back(count=count)
                    self.assertEqual(do(day, further), do(after(name, kept), further))
                    self.assertEqual(state(day), state_by_rule(name, kept + further))

    def test_one_by_one_through_a_long_day(self):
        for name in RULES:
            day = after(name, LONG)
            for place in range(len(LONG) - 1, -1, -1):
                day.back()
                self.assertEqual(state(day), state_by_rule(name, LONG[:place]))


class CopiesAndSameResults(unittest.TestCase):
    def test_what_is_returned_is_a_copy(self):
        day = after("shortest", [3, None, 1])
        kept = state(day)
        for part in (day.plan, day.comings, day.row.parts):
            self.assertIs(type(part), list)
            part.append(7)
            part[0] = None
            part.clear()
        self.assertEqual(state(day), kept)
        self.assertEqual(do(day, [None, None]), [1, 0])

    def test_what_was_returned_does_not_go_on_with_the_day(self):
        day = after("shortest", [3, None, 1])
        plan, comings, row = day.plan, day.comings, day.row
        do(day, [None, 2, None])
        day.back(count=5)
        self.assertEqual((plan, comings, row), ([0], [(0, 3), (1, 1)], Row([2, 1])))

    def test_kinds_of_values(self):
        day = after("turns", [3, None, 1])
        self.assertEqual([type(part) for part in state(day)], [int, Row, list, list, int, int])
        self.assertTrue(all(type(coming) is tuple for coming in day.comings))

    def test_properties_are_not_assigned(self):
        day = after("turns", [3, None, 1])
        for name in ("minute", "row", "plan", "comings", "waiting"):
            with self.assertRaises(AttributeError):
                setattr(day, name, None)

    def test_two_days_with_one_rule_do_not_meddle(self):
        rule = Turns()
        one, other = LiveDay(rule), LiveDay(rule)
        do(one, [2, 2, None])
        do(other, [2, 2])
        self.assertEqual((one.over(), other.over()), (1, 0))
        self.assertEqual((one.plan, other.plan), ([0, 1], [0]))

    def test_reading_changes_nothing(self):
        day = after("longest", [3, None, 1, 2])
        for _ in range(3):
            self.assertEqual(state(day), state_by_rule("longest", [3, None, 1, 2]))


if __name__ == "__main__":
    unittest.main()
