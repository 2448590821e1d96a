"""A console: commands and their answers as strings."""

from fewestwait.errors import InvalidCommand, InvalidText, NotReady
from fewestwait.live import LiveDay
from fewestwait.rows import not_evener, not_fewer
from fewestwait.rules import rule_called
from fewestwait.texts import number_in, read_row, show_day, show_plan, show_row

ALONE = ("over", "row", "plan", "comings", "waiting")


class Console:
    """Executes commands, with one live day, at first none."""

    def __init__(self):
        self._live = None

    def execute(self, command):
        """Execute the command and return its answer."""
        word, words = _parted(command)
        if word in ("fewer", "evener"):
            one, other = _two_rows(words)
            return _verdict(not_fewer(one, other) if word == "fewer" else not_evener(one, other))
        if word == "day":
            self._live = LiveDay(_rule_in(words))
            return "ok"
        number = _number_behind(word, words)
        if self._live is None:
            raise NotReady("there is no live day yet")
        return self._answer(word, number)

    def _answer(self, word, number):
        """Return the answer of the live day to a command, with the integer behind its word."""
        if word == "come":
            return str(self._live.come(number))
        if word == "over":
            return show_plan([self._live.over()])
        if word == "back":
            self._live.back(count=number)
            return "ok"
        if word == "row":
            return show_row(self._live.row)
        if word == "plan":
            return show_plan(self._live.plan)
        if word == "comings":
            return show_day(self._live.comings)
        return str(self._live.waiting)


def _parted(command):
    """Return the first word of the command and the list of all other ones."""
    if not isinstance(command, str):
        raise InvalidCommand("a command is a string")
    words = command.split(" ")
    return (words[0], words[1:])


def _two_rows(words):
    """Return the Rows that are written ahead of the slash and behind it."""
    if words.count("/") != 1:
        raise InvalidCommand("two rows have one slash between them")
    at = words.index("/")
    return (_row_in(words[:at]), _row_in(words[at + 1:]))


def _row_in(words):
    text = " ".join(words)
    try:
        return read_row(text)
    except InvalidText:
        raise InvalidCommand("beside the slash stands no row") from None


def _rule_in(words):
    rule = rule_called(words[0]) if len(words) == 1 else None
    if rule is None:
        raise InvalidCommand("a day begins with the name of a rule")
    return rule


def _number_behind(word, words):
    """Return the integer behind the word of a command, None for a command of one word."""
    if word in ALONE and not words:
        return None
    if word not in ("come", "back") or len(words) != 1:
        raise InvalidCommand("there is no such command")
    number = number_in(words[0], 1 if word == "come" else 0)
    if number is None:
        raise InvalidCommand("behind the word stands no such integer")
    return number


def _verdict(k):
    return "yes" if k is None else f"no {k}"
