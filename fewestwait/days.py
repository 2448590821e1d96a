"""Days, plans for one hand, and what can be done by a minute."""

from fewestwait.errors import InvalidDay, InvalidPlan, InvalidWork
from fewestwait.kinds import is_integer, is_integer_from
from fewestwait.rows import Row


def check_plan(day, plan):
    """Raise InvalidDay if the day is none, InvalidPlan with the first minute that is wrong."""
    check_day(day)
    left = works_of(day)
    for minute, person in enumerate(plan):
        if person is None:
            continue
        if not _can_be_served(day, left, minute, person):
            raise InvalidPlan(minute)
        left[person] -= 1


def row_at(day, plan, minute):
    """Return the Row of the works that are left at the beginning of the minute."""
    check_plan(day, plan)
    left = works_of(day)
    for person in plan[:minute]:
        if person is not None:
            left[person] -= 1
    return _row_of_those_there(day, left, minute)


def finished(day, plan):
    """Return the list of the finishing minutes, None for people who are not finished."""
    check_plan(day, plan)
    left = works_of(day)
    ends = [None] * len(day)
    for minute, person in enumerate(plan):
        if person is not None:
            left[person] -= 1
            if left[person] == 0:
                ends[person] = minute
    return ends


def waiting(day, plan):
    """Return the sum, over all people, of the minutes in which they wait under a complete plan."""
    ends = finished(day, plan)
    if None in ends:
        raise InvalidPlan(len(plan))
    return sum([end - came + 1 for (came, _), end in zip(day, ends)])


def plan_for(day, minute, done):
    """Return a plan of so many minutes that does just these amounts, or None."""
    if forbidding(day, minute, done) is not None:
        return None
    # Nobody is in a hurry ahead of the end, so it is enough that no minute is lost.
    left = list(done)
    plan = []
    for now in range(minute):
        ready = [person for person in range(number_come(day, now)) if left[person] > 0]
        plan.append(min(ready, default=None))
        if ready:
            left[ready[0]] -= 1
    return plan


def forbidding(day, minute, done):
    """Return the greatest minute that forbids these amounts at the given minute, or None."""
    check_day(day)
    _check_done(day, done)
    # From one coming up to the next one the sum is the same while the time shrinks:
    # a minute between them forbids only what the later one forbids, too.
    tried = [came for came, _ in day if came <= minute] + [minute]
    return max([first for first in tried if _sum_from(day, done, first) > minute - first], default=None)


def check_day(day):
    """Raise InvalidDay if the value is not a list of comings."""
    if not is_day(day):
        raise InvalidDay("a day is a list of tuples (minute, work), with minutes that never fall")


def is_day(value):
    """Return whether the value is a list of comings."""
    if not isinstance(value, list) or not all([_is_coming(item) for item in value]):
        return False
    minutes = [came for came, _ in value]
    return minutes == sorted(minutes)


def works_of(day):
    """Return the list of all works."""
    return [work for _, work in day]


def number_come(day, minute):
    """Return how many people have come by the minute, those who come in it included."""
    return len([came for came, _ in day if came <= minute])


def rows_until(day, plan, last):
    """Return the Rows at all minutes up to the last one, included."""
    left = works_of(day)
    rows = []
    for minute in range(last + 1):
        rows.append(_row_of_those_there(day, left, minute))
        person = plan[minute] if minute < len(plan) else None
        if person is not None:
            left[person] -= 1
    return rows


def _is_coming(value):
    if not isinstance(value, tuple) or len(value) != 2:
        return False
    return is_integer_from(value[0], 0) and is_integer_from(value[1], 1)


def _can_be_served(day, left, minute, person):
    if not is_integer(person) or not 0 <= person < len(day):
        return False
    return day[person][0] <= minute and left[person] > 0


def _check_done(day, done):
    if not isinstance(done, list) or len(done) != len(day):
        raise InvalidWork("the amounts are not a list with one for each person")
    for amount, work in zip(done, works_of(day)):
        if not is_integer_from(amount, 0) or amount > work:
            raise InvalidWork("an amount is not an integer from 0 to the work")


def _row_of_those_there(day, left, minute):
    return Row([work for (came, _), work in zip(day, left) if came <= minute and work > 0])


def _sum_from(day, done, minute):
    """Return the sum of the amounts of all people who come in the minute or later."""
    return sum([amount for (came, _), amount in zip(day, done) if came >= minute])
