"""A day that goes on, deed by deed, with a rule."""

from fewestwait.errors import InvalidWork, NothingToUndo
from fewestwait.kinds import is_integer_from
from fewestwait.rows import Row


class LiveDay:
    """People come, minutes are over, and the last deeds can be taken back."""

    def __init__(self, rule):
        self._rule = rule
        self._comings = []
        self._left = []
        self._plan = []
        # For each minute that is over, the number of people at it.
        self._people_at = []
        # For each deed, whether a person came; otherwise a minute is over.
        self._deeds = []

    @property
    def minute(self):
        """The present minute."""
        return len(self._plan)

    @property
    def row(self):
        """The Row of the works that are left now."""
        return Row([work for work in self._left if work > 0])

    @property
    def plan(self):
        """The list of who was served in each minute that is over, None for nobody."""
        return list(self._plan)

    @property
    def comings(self):
        """The day so far: a list of tuples (minute, work)."""
        return list(self._comings)

    @property
    def waiting(self):
        """The sum, over all minutes that are over, of the numbers of people at them."""
        return sum(self._people_at)

    def __len__(self):
        return len(self._deeds)

    def come(self, work):
        """Let a person come in the present minute; return the number of the person."""
        if not is_integer_from(work, 1):
            raise InvalidWork("a work is an integer from 1 on")
        self._comings.append((len(self._plan), work))
        self._left.append(work)
        self._deeds.append(True)
        return len(self._comings) - 1

    def over(self):
        """Let the minute be over; return the number of the person who was served in it, or None."""
        person = self._rule.choose(self._left, self._last_served())
        self._people_at.append(len([work for work in self._left if work > 0]))
        self._plan.append(person)
        if person is not None:
            self._left[person] -= 1
        self._deeds.append(False)
        return person

    def back(self, *, count=1):
        """Take back the last deeds."""
        if count > len(self._deeds):
            raise NothingToUndo("there are fewer deeds than are to be taken back")
        for _ in range(count):
            if self._deeds.pop():
                self._comings.pop()
                self._left.pop()
            else:
                self._people_at.pop()
                self._serve_no_more(self._plan.pop())

    def _last_served(self):
        """Return the number of the person who was served last, None if nobody was."""
        served = [person for person in self._plan if person is not None]
        return served[-1] if served else None

    def _serve_no_more(self, person):
        """Give a person, or nobody, the last minute of work back."""
        if person is not None:
            self._left[person] += 1
