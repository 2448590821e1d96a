"""Several hands for people who are all there from the beginning."""

from fewestwait.kinds import is_integer


def least_minutes(works, hands):
    """Return the least number of minutes in which all works can be done."""
    mean_rounded_up = (sum(works) + hands - 1) // hands
    return max([mean_rounded_up, *works])


def hands_plan(works, hands):
    """Return a plan of hands with the least number of minutes."""
    minutes = least_minutes(works, hands)
    # All people stand one behind the other, each for as many minutes as the work has, and each hand in turn
    # takes the next `minutes` of them. Who is divided between two hands has no more minutes than that,
    # and so is done with the second hand before the first one begins.
    people = [person for person, work in enumerate(works) for _ in range(work)]
    return [people[minute::minutes] for minute in range(minutes)]


def is_hands_plan(works, hands, plan):
    """Return whether this is a plan of hands that serves each person for just as many minutes as the work has."""
    served = [0] * len(works)
    for people in plan:
        if len(people) > hands or not _are_different(people, len(works)):
            return False
        for person in people:
            served[person] += 1
    return served == works


def least_sum(works, hands):
    """Return the least sum of finishing times without change."""
    return division_sum(works, division(works, hands))


def division(works, hands):
    """Return for each hand the list of its people, in the order of serving, with the least sum."""
    # From the least work to the greatest, in turn: so the greatest ones delay the fewest people.
    order = [person for _, person in sorted([(work, person) for person, work in enumerate(works)])]
    return [order[hand::hands] for hand in range(hands)]


def division_sum(works, lists):
    """Return the sum of the finishing times, each hand serving its list."""
    total = 0
    for people in lists:
        now = 0
        for person in people:
            now += works[person]
            total += now
    return total


def two_hands():
    """Return works, a plan of hands and a minute at which fewer people are left than under Shortest."""
    # Shortest serves 0 and 1 first, and then 2 alone, up to minute 3.
    return ([1, 1, 2], [[0, 2], [1, 2]], 2)


def _are_different(people, many):
    """Return whether these are different numbers of people."""
    if not all([is_integer(person) and 0 <= person < many for person in people]):
        return False
    return len(set(people)) == len(people)
