"""Kinds of values that several files ask for."""


def is_integer(value):
    """Return whether the value is an integer; True and False are none."""
    return isinstance(value, int) and not isinstance(value, bool)


def is_integer_from(value, least):
    """Return whether the value is an integer from `least` on."""
    return is_integer(value) and value >= least
