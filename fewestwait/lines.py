"""Lines at tills: rules that choose a line for each person who comes, and one common line."""

from fewestwait.errors import InvalidLines
from fewestwait.kinds import is_integer
from fewestwait.rows import Row


def lengths(lines, events, choices):
    """Return the list of the lengths of all lines behind the events."""
    check_choices(lines, events, choices)
    return _all_lengths(lines, events, choices)[-1]


def shortest_choices(lines, events):
    """Return the choices of the rule that joins the line with the fewest people, of these the least number."""
    now = [0] * lines
    choices = []
    for event in events:
        if event == "come":
            choices.append(now.index(min(now)))
            now = _joined(now, choices[-1])
        else:
            now = _ticked(now)
    return choices


def round_choices(lines, events):
    """Return the choices of the rule that takes all lines in turn."""
    return [person % lines for person in range(_number_of_comings(events))]


def common(lines, events):
    """Return the number of people in the common line behind the events."""
    return _all_commons(lines, events)[-1]


def lines_table(lines, events, choices):
    """Return tuples (row under shortest, row under the choices, people in the common line).

    The first one is at the beginning, and one more is behind each event.
    """
    check_choices(lines, events, choices)
    shortest = _all_rows(lines, events, shortest_choices(lines, events))
    chosen = _all_rows(lines, events, choices)
    return list(zip(shortest, chosen, _all_commons(lines, events)))


def stays(lines, events, choices):
    """Return for each person the number of ticks up to being served, None if this is not yet."""
    check_choices(lines, events, choices)
    now = [0] * lines
    ticks_to_come = len(events) - len(choices)
    found = []
    for event in events:
        if event == "come":
            line = choices[len(found)]
            now = _joined(now, line)
            # Each tick serves one of the line, the person as the last one of those who are there now.
            found.append(now[line] if now[line] <= ticks_to_come else None)
        else:
            now = _ticked(now)
            ticks_to_come -= 1
    return found


def check_choices(lines, events, choices):
    """Raise InvalidLines if the choices are not a list with a line for each coming."""
    if not isinstance(choices, list) or len(choices) != _number_of_comings(events):
        raise InvalidLines("the choices are not a list with a line for each coming")
    if not all([is_integer(line) and 0 <= line < lines for line in choices]):
        raise InvalidLines("a choice is not the number of a line")


def _number_of_comings(events):
    return len([event for event in events if event == "come"])


def _joined(now, line):
    """Return the lengths behind a coming to this line."""
    return [length + 1 if number == line else length for number, length in enumerate(now)]


def _ticked(now):
    """Return the lengths behind a tick."""
    return [max(0, length - 1) for length in now]


def _all_lengths(lines, events, choices):
    """Return the lists of lengths at the beginning and behind each event."""
    found = [[0] * lines]
    comings = 0
    for event in events:
        if event == "come":
            found.append(_joined(found[-1], choices[comings]))
            comings += 1
        else:
            found.append(_ticked(found[-1]))
    return found


def _all_rows(lines, events, choices):
    """Return the lengths at the beginning and behind each event as Rows, which have no empty lines."""
    return [Row([length for length in now if length > 0]) for now in _all_lengths(lines, events, choices)]


def _all_commons(lines, events):
    """Return the numbers of people in the common line, at the beginning and behind each event."""
    found = [0]
    for event in events:
        found.append(found[-1] + 1 if event == "come" else max(0, found[-1] - lines))
    return found
