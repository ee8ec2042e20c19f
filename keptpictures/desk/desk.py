"""Desks: items under names, changed by commands step by step."""

from keptpictures.desk.items import items_read
from keptpictures.desk.making import made
from keptpictures.desk.showing import shown
from keptpictures.errors import BadLimit, KeepError, NoCell, NoName, NoStep, Stopped
from keptpictures.sheets.question import Question

FIRST_LIMIT = 20
GREATEST_LIMIT = 100


class Desk:
    """Items under their names, and the steps that can be undone."""

    def __init__(self):
        self._items = {}
        self._earlier = []
        self._limit = FIRST_LIMIT

    @property
    def names(self):
        """Return the names in use, ascending."""
        return tuple(sorted(self._items))

    @property
    def steps(self):
        """Return how many steps can be undone now."""
        return len(self._earlier)

    @property
    def limit(self):
        """Return how many steps can be undone at most."""
        return self._limit

    @limit.setter
    def limit(self, value):
        """Set how many steps can be undone at most."""
        self.set_limit(value)

    def do(self, *commands):
        """Perform the commands as one step, and return their outcomes."""
        # The commands change a copy: if one of them is refused, the items stay as they were.
        items = dict(self._items)
        outcomes = []
        for place, command in enumerate(commands):
            try:
                outcomes.append(performed(items, command))
            except KeepError as wrong:
                raise Stopped(place) from wrong
        self._earlier.append(self._items)
        self._items = items
        self._forget_steps()
        return outcomes

    def undo(self):
        """Put back the items from before the latest step."""
        if not self._earlier:
            raise NoStep()
        self._items = self._earlier.pop()

    def set_limit(self, number):
        """Set how many steps can be undone at most."""
        if not 0 <= number <= GREATEST_LIMIT:
            raise BadLimit(number)
        self._limit = number
        self._forget_steps()

    def item(self, name):
        """Return the item with this name."""
        if name not in self._items:
            raise NoName(name)
        return self._items[name]

    def _forget_steps(self):
        """Leave the earliest steps out that are beyond the limit."""
        surplus = max(0, len(self._earlier) - self._limit)
        self._earlier = self._earlier[surplus:]


def performed(items, command):
    """Do what the command says with the items by name, and return its outcome."""
    word, name, *more = command
    own = items_read(items, command)
    if word == "ask":
        return asked(own[0], more)
    if word == "show":
        return shown(own[0])
    if word == "forget":
        del items[name]
    else:
        items[name] = made(own, command)
    return None


def asked(told, more):
    """Return the answer about the sample of a sheet at a cell."""
    z, x, y = more
    if not 0 <= z < len(told.moduli):
        raise NoCell(x, y)
    return told.answer(z, Question.cell(x, y))
