"""Rows of works or of lines, and the two orders of them."""

from fewestwait.errors import InvalidLines, InvalidRow
from fewestwait.kinds import is_integer_from


class Row:
    """A multiset of integers from 1 on, kept from the greatest to the least."""

    def __init__(self, items):
        if not _are_items(items):
            raise InvalidRow("a row takes a list of integers from 1 on")
        self._parts = tuple(sorted(items, reverse=True))

    @property
    def parts(self):
        """The list of the items from the greatest to the least."""
        return list(self._parts)

    def __len__(self):
        return len(self._parts)

    def __iter__(self):
        return iter(self._parts)

    def __eq__(self, other):
        return isinstance(other, Row) and self._parts == other._parts

    def __add__(self, other):
        if not isinstance(other, Row):
            return NotImplemented
        return Row([*self._parts, *other._parts])

    def head(self, k):
        """Return the sum of the k greatest items."""
        return sum(self._parts[:k])

    def tail(self, k):
        """Return the sum of all items but the k greatest ones."""
        return sum(self._parts[k:])

    def fewer(self, other):
        """Return whether this row has fewer left than the other one, or as many."""
        return not_fewer(self, other) is None

    def evener(self, other):
        """Return whether this row is evener than the other one, or as even."""
        return not_evener(self, other) is None


def not_fewer(one, other):
    """Return the least k for which the tail of `one` is greater, or None."""
    # From its number of items on, a row's tails are 0, and so never the greater ones.
    for k in range(len(one)):
        if one.tail(k) > other.tail(k):
            return k
    return None


def not_evener(one, other):
    """Return the least k for which the head of `one` is greater, or None."""
    # From its number of items on, a row's heads grow no more, while the other one's may.
    for k in range(len(one) + 1):
        if one.head(k) > other.head(k):
            return k
    return None


def check_lines(row, lines):
    """Raise InvalidLines if the row has more items than there are lines."""
    if len(row) > lines:
        raise InvalidLines(f"a row of {len(row)} items does not fit the lines")


def _are_items(value):
    return isinstance(value, list) and all([is_integer_from(item, 1) for item in value])
