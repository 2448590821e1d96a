"""Texts of rows, days and plans, one for each."""

from fewestwait.days import is_day
from fewestwait.errors import InvalidText
from fewestwait.rows import Row

MOST_DIGITS = 30


def show_row(row):
    """Return the text of a row, as `3 1`."""
    return _text_of([str(item) for item in row])


def show_day(day):
    """Return the text of a day, as `0:3 1:1`."""
    return _text_of([f"{minute}:{work}" for minute, work in day])


def show_plan(plan):
    """Return the text of a plan, as `0 . 1`."""
    return _text_of(["." if person is None else str(person) for person in plan])


def read_row(text):
    """Return the Row that has this text."""
    items = [number_in(word, 1) for word in _words_of(text)]
    if None in items or items != sorted(items, reverse=True):
        raise InvalidText("the text of a row has integers from 1 on, from the greatest to the least")
    return Row(items)


def read_day(text):
    """Return the list of comings that has this text."""
    day = [_coming_in(word) for word in _words_of(text)]
    if not is_day(day):
        raise InvalidText("the text of a day has words MINUTE:WORK, with minutes that never fall")
    return day


def read_plan(text):
    """Return the list of numbers and None that has this text."""
    plan = []
    for word in _words_of(text):
        person = number_in(word, 0)
        if person is None and word != ".":
            raise InvalidText("the text of a plan has integers from 0 on and dots")
        plan.append(person)
    return plan


def number_in(word, least):
    """Return the integer from `least` on that is written in the word, or None."""
    if not word.isascii() or not word.isdigit() or len(word) > MOST_DIGITS:
        return None
    number = int(word)
    # A leading zero would give the integer a second text.
    if str(number) != word or number < least:
        return None
    return number


def _text_of(words):
    return " ".join(words) if words else "-"


def _words_of(text):
    """Return the words of a text, which may be wrong ones; raise InvalidText if it is no string."""
    if not isinstance(text, str):
        raise InvalidText("a text is a string")
    return [] if text == "-" else text.split(" ")


def _coming_in(word):
    """Return what stands ahead of the colon and behind it as a coming, None for what is wrong."""
    minute, _, work = word.partition(":")
    return (number_in(minute, 0), number_in(work, 1))
