"""All small rows, as plain tuples, and the orders and moves of DOC.md over them, word by word.

Nothing here uses the package: the tests hold it against this.
"""

from itertools import combinations_with_replacement


def all_rows(many, greatest):
    """All rows of at most `many` items up to `greatest`, each from the greatest item to the least."""
    return [
        tuple(sorted(items, reverse=True))
        for size in range(many + 1)
        for items in combinations_with_replacement(range(1, greatest + 1), size)
    ]


def head(row, k):
    return sum(sorted(row, reverse=True)[:k])


def tail(row, k):
    return sum(row) - head(row, k)


def first_greater(one, other, measure):
    """The least k for which the measure of `one` is greater, or None; with k well beyond both rows."""
    for k in range(len(one) + len(other) + 2):
        if measure(one, k) > measure(other, k):
            return k
    return None


def changed(row, places):
    """The row with numbers added at places; the place len(row) is an empty line."""
    items = list(row) + [0]
    for place, more in places:
        items[place] += more
    return tuple(sorted([item for item in items if item > 0], reverse=True))


def less_steps(row):
    """The less-moves that a row allows, each with the row behind it."""
    steps = {}
    for i, a in enumerate(row):
        steps["off", a] = changed(row, [(i, -1)])
        for j, b in enumerate(row):
            if i != j and b >= a:
                steps["pass", a, b] = changed(row, [(i, -1), (j, 1)])
    return steps


def even_steps(row, lines):
    """The even-moves that a row on so many lines allows, each with the row behind it."""
    steps = {}
    for i, a in enumerate(row):
        steps["off", a] = changed(row, [(i, -1)])
        for j, b in enumerate(row):
            if i != j and b <= a - 2:
                steps["pass", a, b] = changed(row, [(i, -1), (j, 1)])
        if len(row) < lines and a >= 2:
            steps["pass", a, 0] = changed(row, [(i, -1), (len(row), 1)])
    return steps


def reached(row, steps_of):
    """All rows to which moves lead from a row."""
    found = {row: True}
    waiting = [row]
    while waiting:
        for behind in steps_of(waiting.pop()).values():
            if behind not in found:
                found[behind] = True
                waiting.append(behind)
    return found
