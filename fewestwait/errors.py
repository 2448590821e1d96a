"""The errors of the package."""


class DayError(ValueError):
    """What every error of the package is."""


class InvalidRow(DayError):
    """The items are not a list of integers from 1 on."""


class InvalidMove(DayError):
    """The list of moves has an item that is no move, or that the row does not allow."""


class InvalidDeed(DayError):
    """The value is not a deed by rank."""


class InvalidDay(DayError):
    """The value is not a list of comings."""


class InvalidWork(DayError):
    """The value is not a work, or not the amounts of work that are done."""


class InvalidOrder(DayError):
    """The value is not a list with each number of a person once."""


class InvalidLines(DayError):
    """There are more items than lines, or the choices are not lines."""


class NotFewer(DayError):
    """The one row does not have fewer left than the other one."""


class NotEvener(DayError):
    """The one row is not evener than the other one."""


class NothingToUndo(DayError):
    """There are fewer deeds than are to be taken back."""


class InvalidText(DayError):
    """The value is not the text of what is to be read."""


class InvalidCommand(DayError):
    """The value does not have the form of a command."""


class NotReady(DayError):
    """The command needs a live day that is not there."""


class InvalidPlan(DayError):
    """The plan is wrong; the attribute `at` tells the minute."""

    def __init__(self, at):
        super().__init__(f"the plan is wrong at minute {at}")
        self.at = at
