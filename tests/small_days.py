"""All small days, all their plans, and the rules of DOC.md over them, word by word.

Nothing here uses the package: the tests hold it against this.
"""

from itertools import combinations_with_replacement, product

from small import EqualToAll

GREAT = 10 ** 30 - 1

# Values of all kinds that are not a list of comings.
NO_DAYS = [
    None, True, 0, 3, "", "0:1", b"", (), ((0, 1),), {}, {0: 1}, {(0, 1)}, range(2), object(),
    EqualToAll(), [None], [0], ["0:1"], [[0, 1]], [()], [(0,)], [(0, 1, 1)], [((0, 1),)], [{0: 1}], [[(0, 1)]],
    [(True, 1)], [(False, 1)], [(0, True)], [(0, False)], [(0, 1), (True, 1)], [(0, 1), (1, True)],
    [(0.0, 1)], [(0, 1.0)], [("0", 1)], [(0, "1")], [(None, 1)], [(0, None)], [([0], 1)], [(0, [1])],
    [(0, EqualToAll())], [(EqualToAll(), 1)], [EqualToAll()],
    [(-1, 1)], [(0, 0)], [(0, -1)], [(0, 1), (0, 0)], [(-GREAT, 1)], [(0, -GREAT)],
    [(1, 1), (0, 1)], [(0, 1), (2, 1), (1, 1)], [(GREAT, 1), (GREAT - 1, 1)], [(3, 1), (4, 1), (4, 1), (2, 1), (5, 1)],
    [(0, 1), [1, 1]], [(0, 1), None],
]


def all_days(people, last, work):
    """All days of at most so many people who come up to the minute `last`, with works up to `work`."""
    return [
        list(zip(minutes, works))
        for many in range(people + 1)
        for minutes in combinations_with_replacement(range(last + 1), many)
        for works in product(range(1, work + 1), repeat=many)
    ]


def who_can_be(day, left, minute):
    """The people who can be served in a minute."""
    return [person for person, (came, _) in enumerate(day) if came <= minute and left[person] > 0]


def works(day):
    return [work for _, work in day]


def all_plans(day, minutes):
    """All plans of just so many minutes."""
    found = [([], works(day))]
    for minute in range(minutes):
        longer = []
        for plan, left in found:
            longer.append((plan + [None], left))
            for person in who_can_be(day, left, minute):
                longer.append((plan + [person], less(left, person)))
        found = longer
    return [plan for plan, _ in found]


def less(left, person):
    return [work - 1 if number == person else work for number, work in enumerate(left)]


def left_behind(day, plan):
    """The works that are left behind all minutes of a plan."""
    return [work - plan.count(person) for person, (_, work) in enumerate(day)]


def row(day, left, minute):
    """The row at a minute, as a list from the greatest item to the least."""
    return sorted([left[k] for k, (came, _) in enumerate(day) if came <= minute and left[k] > 0], reverse=True)


def first_wrong(day, items):
    """The first minute of a list that cannot be a plan's, or None."""
    left = works(day)
    for minute, person in enumerate(items):
        if person is not None:
            if person not in who_can_be(day, left, minute):
                return minute
            left = less(left, person)
    return None


def last_minute(day):
    """A minute by which each plan that always serves somebody is complete."""
    return max([came for came, _ in day], default=0) + sum(works(day))


def all_lefts(day, last):
    """For each minute up to the last one, what can be left at its beginning, under any plan."""
    found = [{tuple(works(day))}]
    for minute in range(last):
        behind = set(found[-1])
        for left in found[-1]:
            behind.update(tuple(less(left, person)) for person in who_can_be(day, left, minute))
        found.append(behind)
    return found


def least_waiting(day):
    """The least waiting of all complete plans, by trying each choice in each minute, nobody included."""
    known = {}

    def least(left, minute):
        if not any(left):
            return 0
        if (left, minute) not in known:
            there = who_can_be(day, left, minute)
            behind = [tuple(less(left, person)) for person in there]
            if minute < last_minute(day):
                behind.append(left)
            known[left, minute] = len(there) + min(least(one, minute + 1) for one in behind)
        return known[left, minute]

    return least(tuple(works(day)), 0)


def rule_plan(name, day):
    """The plan of a rule."""
    left, plan, last = works(day), [], -1
    while any(left):
        there = who_can_be(day, left, len(plan))
        if not there:
            plan.append(None)
            continue
        if name == "shortest":
            person = sorted(there, key=lambda k: (left[k], k))[0]
        elif name == "longest":
            person = sorted(there, key=lambda k: (-left[k], k))[0]
        elif name == "first":
            person = there[0]
        else:
            turns = [(last + step) % len(day) for step in range(1, len(day) + 1)]
            person = [k for k in turns if k in there][0]
        last = person
        left = less(left, person)
        plan.append(person)
    return plan
