"""Deeds by rank, and which pairs of them keep an order of rows for all rows."""

from fewestwait.errors import InvalidDeed
from fewestwait.kinds import has_form
from fewestwait.rows import Row, check_lines


def work_deed(row, deed):
    """Return the Row behind a deed for works."""
    _check_work_deed(deed)
    items = row.parts
    if deed[0] == "come":
        return Row([*items, deed[1]])
    if deed[0] == "longest":
        return _served(items, 0)
    # Ranks of works count from the least item, which stands last.
    return _served(items, max(len(items) - deed[1], 0))


def line_deed(row, lines, deed):
    """Return the Row behind a deed for so many lines."""
    check_lines(row, lines)
    _check_line_deed(lines, deed)
    items = row.parts
    if deed[0] == "tick":
        return _row_of([item - 1 for item in items])
    if deed[0] == "serve":
        return _served(items, deed[1] - 1)
    return _joined(items, deed[1] - 1)


def keeps_fewer(deed, other):
    """Return whether x behind `deed` has fewer left than y behind `other`, for all x with fewer left than y."""
    _check_work_deed(deed)
    _check_work_deed(other)
    if deed[0] == "come":
        return other[0] == "come" and deed[1] <= other[1]
    # Serving the least item lessens each tail that is not 0: no other serving does more. Serving the longest
    # one lessens the tail k of y only if its k + 1 greatest items are equal; a tail k of x that is as great
    # belongs to the same k + 1 items, so any serving lessens it. Other ranks lessen tails that x may keep.
    return other[0] != "serve" or (deed[0] == "serve" and deed[1] == 1)


def breaks_fewer(deed, other):
    """Return two Rows that show that the pair does not keep the order "fewer left", or None."""
    if keeps_fewer(deed, other):
        return None
    if deed[0] == "come":
        return (Row([]), Row([]))
    # Both have the same tail 1, and `other` lessens it, while `deed` serves the item ahead of it.
    rank = other[1]
    return (Row([rank + 1, rank]), Row([rank + 1] + [1] * rank))


def keeps_evener(lines, deed, other):
    """Return whether x behind `deed` is evener than y behind `other`, for all x evener than y on so many lines."""
    _check_line_deed(lines, deed)
    _check_line_deed(lines, other)
    if other[0] == "join":
        return deed[0] != "join" or deed[1] >= other[1]
    if deed[0] == "join":
        return False
    # A tick does more than serving one line, if there are several.
    if other[0] == "tick":
        return deed[0] == "tick" or lines == 1
    return deed[0] == "tick" or deed[1] <= other[1]


def breaks_evener(lines, deed, other):
    """Return two Rows that show that the pair does not keep the order "evener" on so many lines, or None."""
    if keeps_evener(lines, deed, other):
        return None
    items = _ones_that_break(deed, other)
    return (Row(items), Row(items))


def _ones_that_break(deed, other):
    """Return items 1, so many that the pair, which does not keep the order, does not keep the row of them."""
    if other[0] == "tick" and deed[0] == "serve":
        return [1, 1]
    if other[0] != deed[0]:
        return []
    # The lesser rank is that of the last item, the greater one that of an empty line.
    return [1] * min(deed[1], other[1])


def _check_work_deed(deed):
    counted = has_form(deed, "serve", 2) or has_form(deed, "come", 2)
    if not has_form(deed, "longest", 1) and not (counted and deed[1] >= 1):
        raise InvalidDeed("a deed for works is to serve a rank from 1 on, the longest, or a coming work from 1 on")


def _check_line_deed(lines, deed):
    ranked = has_form(deed, "join", 2) or has_form(deed, "serve", 2)
    if not has_form(deed, "tick", 1) and not (ranked and 1 <= deed[1] <= lines):
        raise InvalidDeed("a deed for lines is to join or to serve one of the ranks of the lines, or a tick")


def _served(items, place):
    """Return the Row with the item at the place less by 1; there may be none."""
    left = list(items)
    if place < len(left):
        left[place] -= 1
    return _row_of(left)


def _joined(items, place):
    """Return the Row with the item at the place greater by 1; behind the items stand empty lines."""
    if place >= len(items):
        return Row([*items, 1])
    more = list(items)
    more[place] += 1
    return Row(more)


def _row_of(items):
    return Row([item for item in items if item > 0])
