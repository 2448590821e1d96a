"""Moves that lead from a row to one with fewer left, or to an evener one."""

from fewestwait.errors import InvalidMove, NotEvener, NotFewer
from fewestwait.kinds import has_form
from fewestwait.rows import Row, check_lines, not_evener, not_fewer


def less_moves(one, other):
    """Return less-moves that lead from `other` to `one`."""
    k = not_fewer(one, other)
    if k is not None:
        raise NotFewer(f"the tail {k} of the one row is greater")
    return _path(one, other, _less_step)


def even_moves(one, other, lines):
    """Return even-moves that lead from `other` to `one`, on so many lines."""
    check_lines(one, lines)
    check_lines(other, lines)
    k = not_evener(one, other)
    if k is not None:
        raise NotEvener(f"the head {k} of the one row is greater")
    return _path(one, other, _even_step)


def less_moved(row, moves):
    """Return the Row behind the less-moves."""
    items = row.parts
    for at, move in enumerate(moves):
        if not _allows_less(items, move):
            raise InvalidMove(f"item {at} is not a less-move that the row allows")
        items = _moved(items, move)
    return Row(items)


def even_moved(row, moves, lines):
    """Return the Row behind the even-moves, on so many lines."""
    check_lines(row, lines)
    items = row.parts
    for at, move in enumerate(moves):
        if not _allows_even(items, move, lines):
            raise InvalidMove(f"item {at} is not an even-move that the row allows")
        items = _moved(items, move)
    return Row(items)


def _path(one, other, step):
    moves = []
    row = other
    while row != one:
        move = step(one, row)
        moves.append(move)
        row = Row(_moved(row.parts, move))
    return moves


def _less_step(one, row):
    """Return a less-move on `row` that brings it nearer to `one`, which has fewer left."""
    last = max(len(one), len(row))
    excess = [row.tail(k) - one.tail(k) for k in range(last + 1)]
    # A move lessens the tails between its two items, or all tails ahead of the
    # item that goes off: here just those of the first stretch that are too great.
    start = min([k for k in range(last) if excess[k] > 0])
    end = min([k for k in range(start, last + 1) if excess[k] == 0])
    items = row.parts
    if start == 0:
        return ("off", items[end - 1])
    return ("pass", items[end - 1], items[start - 1])


def _even_step(one, row):
    """Return an even-move on `row` that brings it nearer to `one`, which is evener."""
    last = max(len(one), len(row))
    excess = [row.head(k) - one.head(k) for k in range(last + 1)]
    # As for less-moves, but with heads, and the last stretch that is too great.
    end = max([k for k in range(last + 1) if excess[k] > 0])
    start = max([k for k in range(end) if excess[k] == 0])
    items = row.parts
    if end == last:
        return ("off", items[start])
    return ("pass", items[start], items[end] if end < len(items) else 0)


def _allows_less(items, move):
    if has_form(move, "off", 2):
        return move[1] in items
    if not has_form(move, "pass", 3):
        return False
    low, high = move[1], move[2]
    if low == high:
        return items.count(low) >= 2
    return low < high and low in items and high in items


def _allows_even(items, move, lines):
    if has_form(move, "off", 2):
        return move[1] in items
    if not has_form(move, "pass", 3):
        return False
    high, low = move[1], move[2]
    can_take = low in items or (low == 0 and len(items) < lines)
    return high - low >= 2 and high in items and can_take


def _moved(items, move):
    left = _changed(items, move[1], move[1] - 1)
    if move[0] == "off":
        return left
    return _changed(left, move[2], move[2] + 1)


def _changed(items, old, new):
    """Return the items with one `old` less and one `new` more; 0 is no item."""
    left = list(items)
    if old > 0:
        left.remove(old)
    if new > 0:
        left.append(new)
    return left
