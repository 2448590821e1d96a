"""People with works and weights, and the orders of them with the least cost."""

from fewestwait.errors import InvalidOrder
from fewestwait.kinds import is_integer


def cost(people, order):
    """Return the sum of weight times finishing time of all people, served in this order."""
    _check_order(people, order)
    total = 0
    now = 0
    for person in order:
        work, weight = people[person]
        now += work
        total += weight * now
    return total


def exchange_gain(people, order, i):
    """Return the cost behind the exchange of the neighbours at i and i + 1, less the cost."""
    _check_order(people, order)
    return _gain(people[order[i]], people[order[i + 1]])


def least_cost(people):
    """Return the least cost of all orders."""
    return cost(people, best_order(people))


def best_order(people):
    """Return the first order, as lists are ordered, that has the least cost."""
    places = [(_number_ahead(people, person), person) for person in range(len(people))]
    return [person for _, person in sorted(places)]


def best_orders(people):
    """Return the number of orders that have the least cost."""
    # Only people with equal quotients may change places. If they come one after the other,
    # each has as many places to choose from as there are such people by then.
    number = 1
    for person in range(len(people)):
        number = number * len(_equals_up_to(people, person))
    return number


def _check_order(people, order):
    if not _is_order(order, len(people)):
        raise InvalidOrder("an order is a list with each number of a person once")


def _is_order(value, many):
    if not isinstance(value, list) or not all([is_integer(item) for item in value]):
        return False
    return sorted(value) == list(range(many))


def _gain(one, other):
    """Return by how much the cost grows if `other` is served ahead of `one`, its neighbour.

    It is above 0 exactly if the quotient weight by work of `one` is the greater one.
    """
    work, weight = one
    other_work, other_weight = other
    return weight * other_work - other_weight * work


def _number_ahead(people, person):
    """Return how many people have a greater quotient than this one."""
    return len([other for other in people if _gain(other, people[person]) > 0])


def _equals_up_to(people, person):
    """Return those with the same quotient as this person, from the first one up to this one."""
    return [other for other in people[:person + 1] if _gain(other, people[person]) == 0]
