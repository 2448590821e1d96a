"""Kinds of values that several files ask for."""


def is_integer(value):
    """Return whether the value is an integer; True and False are none."""
    return isinstance(value, int) and not isinstance(value, bool)


def is_integer_from(value, least):
    """Return whether the value is an integer from `least` on."""
    return is_integer(value) and value >= least


def has_form(value, word, size):
    """Return whether the value is a tuple of so many items: the word, then integers only."""
    if not isinstance(value, tuple) or len(value) != size:
        return False
    # True would otherwise pass for an integer 1.
    numbers = all([is_integer(item) for item in value[1:]])
    return numbers and isinstance(value[0], str) and value[0] == word
