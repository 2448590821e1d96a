"""All small rows, as plain tuples, and the orders, moves and deeds of DOC.md over them, word by word.

Nothing here uses the package: the tests hold it against this.
"""

from itertools import combinations_with_replacement


class EqualToAll:
    """Not an integer, not a word and not None, whatever == says."""

    def __eq__(self, other):
        return True


def all_rows(many, greatest):
    """All rows of at most `many` items up to `greatest`, each from the greatest item to the least."""
    return [
        tuple(sorted(items, reverse=True))
        for size in range(many + 1)
        for items in combinations_with_replacement(range(1, greatest + 1), size)
    ]


def head(row, k):
    return sum(sorted(row, reverse=True)[:k])


def tail(row, k):
    return sum(row) - head(row, k)


def first_greater(one, other, measure):
    """The least k for which the measure of `one` is greater, or None; with k well beyond both rows."""
    for k in range(len(one) + len(other) + 2):
        if measure(one, k) > measure(other, k):
            return k
    return None


def changed(row, places):
    """The row with numbers added at places; the place len(row) is an empty line."""
    items = list(row) + [0]
    for place, more in places:
        items[place] += more
    return tuple(sorted([item for item in items if item > 0], reverse=True))


def less_steps(row):
    """The less-moves that a row allows, each with the row behind it."""
    steps = {}
    for i, a in enumerate(row):
        steps["off", a] = changed(row, [(i, -1)])
        for j, b in enumerate(row):
            if i != j and b >= a:
                steps["pass", a, b] = changed(row, [(i, -1), (j, 1)])
    return steps


def even_steps(row, lines):
    """The even-moves that a row on so many lines allows, each with the row behind it."""
    steps = {}
    for i, a in enumerate(row):
        steps["off", a] = changed(row, [(i, -1)])
        for j, b in enumerate(row):
            if i != j and b <= a - 2:
                steps["pass", a, b] = changed(row, [(i, -1), (j, 1)])
        if len(row) < lines and a >= 2:
            steps["pass", a, 0] = changed(row, [(i, -1), (len(row), 1)])
    return steps


def reached(row, steps_of):
    """All rows to which moves lead from a row."""
    found = {row: True}
    waiting = [row]
    while waiting:
        for behind in steps_of(waiting.pop()).values():
            if behind not in found:
                found[behind] = True
                waiting.append(behind)
    return found


def work_deed(row, deed):
    """The row behind a deed for works."""
    word, *numbers = deed
    if word == "come":
        return tuple(sorted(row + tuple(numbers), reverse=True))
    if not row:
        return row
    from_the_least = sorted(row)
    rank = numbers[0] if word == "serve" and numbers[0] <= len(row) else len(row)
    from_the_least[rank - 1] -= 1
    return tuple(sorted([item for item in from_the_least if item > 0], reverse=True))


def line_deed(row, lines, deed):
    """The row behind a deed for lines."""
    word, *numbers = deed
    lengths = sorted(row, reverse=True) + [0] * (lines - len(row))
    if word == "tick":
        lengths = [length - 1 if length else 0 for length in lengths]
    elif word == "join":
        lengths[numbers[0] - 1] += 1
    elif lengths[numbers[0] - 1] > 0:
        lengths[numbers[0] - 1] -= 1
    return tuple(sorted([length for length in lengths if length > 0], reverse=True))


def pairs_kept(rows, measure, deeds, behind):
    """The pairs of deeds that no two of the rows break, for the order that the measure makes."""
    longest = max(map(len, rows)) + 2
    measured = {}

    def measures(row):
        if row not in measured:
            measured[row] = [measure(row, k) for k in range(longest)]
        return measured[row]

    def ordered(x, y):
        return all(map(int.__le__, measures(x), measures(y)))

    below = [(x, y) for x in rows for y in rows if ordered(x, y)]
    after = {deed: {row: behind(row, deed) for row in rows} for deed in deeds}
    return {
        (deed, other): all(ordered(after[deed][x], after[other][y]) for x, y in below)
        for deed in deeds
        for other in deeds
    }
