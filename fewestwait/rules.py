"""Rules that tell who is served, and what shows that Shortest keeps the fewest people waiting."""

from fewestwait.days import check_day, check_plan, number_come, rows_until, works_of


class Shortest:
    """Serves the one with the least work left, of these the least number."""

    def __eq__(self, other):
        if not isinstance(other, Shortest):
            return False
        return True

    def choose(self, left, last):
        """Return who is served next, or None: `left` has the works left of all who have come."""
        return min(_there(left), key=lambda person: left[person], default=None)


class First:
    """Serves the least number."""

    def __eq__(self, other):
        if not isinstance(other, First):
            return False
        return True

    def choose(self, left, last):
        """Return who is served next, or None: `left` has the works left of all who have come."""
        return min(_there(left), default=None)


class Longest:
    """Serves the one with the most work left, of these the least number."""

    def __eq__(self, other):
        if not isinstance(other, Longest):
            return False
        return True

    def choose(self, left, last):
        """Return who is served next, or None: `left` has the works left of all who have come."""
        return max(_there(left), key=lambda person: left[person], default=None)


class Turns:
    """Serves the next one by numbers behind the one who was served last."""

    def __eq__(self, other):
        if not isinstance(other, Turns):
            return False
        return True

    def choose(self, left, last):
        """Return who is served next, or None: `last` was served last, None at first."""
        there = _there(left)
        behind = [person for person in there if last is None or person > last]
        return min(behind if behind else there, default=None)


def plan_of(rule, day):
    """Return the rule's complete plan for the day."""
    check_day(day)
    left = works_of(day)
    plan = []
    last = None
    for _ in range(minutes_of_rules(day)):
        person = rule.choose(left[:number_come(day, len(plan))], last)
        plan.append(person)
        if person is not None:
            left[person] -= 1
            last = person
    return plan


def table(day, plan):
    """Return the list of tuples (row under Shortest, row under the plan), for each minute up to the end of both."""
    check_plan(day, plan)
    last = max(minutes_of_rules(day), len(plan))
    return list(zip(rows_until(day, plan_of(Shortest(), day), last), rows_until(day, plan, last)))


def is_table(day, plan, items):
    """Return whether the items are the table, and show that Shortest has fewer left at each minute."""
    check_plan(day, plan)
    # The table has an item for each minute of the works, however great: it is made only for as many items.
    if len(items) != max(minutes_of_rules(day), len(plan)) + 1:
        return False
    return items == table(day, plan) and all([one.fewer(other) for one, other in items])


def least_waiting(day):
    """Return the least waiting of all complete plans of the day."""
    check_day(day)
    # A minute makes each tail that is not 0 less by 1, and these are as many as the people there.
    # So until the next coming each tail tells for how many minutes it stands for one of them.
    total = 0
    tails = [0]
    now = 0
    for came, work in day:
        total += sum([min(tail, came - now) for tail in tails])
        tails = _tails_with(_tails_after(tails, came - now), work)
        now = came
    return total + sum(tails)


def least_tails(day, minute):
    """Return the tails of the row at the minute under Shortest, up to the first one that is 0."""
    check_day(day)
    tails = [0]
    now = 0
    for came, work in day[:number_come(day, minute)]:
        tails = _tails_with(_tails_after(tails, came - now), work)
        now = came
    return _tails_after(tails, minute - now)


def worse_day(rule):
    """Return a day and a minute at which more people are there than under Shortest; None for Shortest."""
    if rule == Shortest():
        return None
    # All other rules begin with person 0, and so have both people there after a minute.
    return ([(0, 2), (0, 1)], 1)


def rule_called(name):
    """Return the rule of this name, or None."""
    if name == "shortest":
        return Shortest()
    if name == "first":
        return First()
    if name == "longest":
        return Longest()
    if name == "turns":
        return Turns()
    return None


def minutes_of_rules(day):
    """Return the number of minutes of each rule's plan: all rules serve in the same minutes."""
    end = 0
    for came, work in day:
        end = max(end, came) + work
    return end


def _there(left):
    """Return the numbers of the people who can be served."""
    return [person for person, work in enumerate(left) if work > 0]


def _tails_after(tails, minutes):
    """Return the tails behind so many minutes without a coming."""
    return [tail - minutes for tail in tails if tail > minutes] + [0]


def _tails_with(tails, work):
    """Return the tails behind a coming; the last one that is given is 0."""
    later = [min(tail + work, before) for before, tail in zip(tails, tails[1:])]
    return [tails[0] + work, *later, 0]
