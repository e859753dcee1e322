"""Movers, desks whose order goes no further than it must: [28] of the document."""

from laidsheets.books import base_of
from laidsheets.counts import steps_of
from laidsheets.desk import case_behind, own_case, without_saying
from laidsheets.errors import InvalidEvent, Refused, copied
from laidsheets.following import ground_by
from laidsheets.nearest import costs_of, nearest_by, values_by_set
from laidsheets.piles import covered
from laidsheets.reasons import reasons_at, stuck_reasons
from laidsheets.ways import way_between

TRIM = "trim"


def beginning(pile):
    """Returns (case, order) of a mover before the first entry of its log."""
    return ((pile, {}, ()), tuple(range(len(pile[2]))))


def trimmed(cells, case):
    """Returns (case, dropped): the case behind a trim, and the tuple of (saying, ground) of the sayings that went.

    cells is what covered tells of the pile.
    """
    dropped = ()
    i = 0
    while i < len(case[2]):
        saying = case[2][i]
        rest = without_saying(case, i)
        ground = ground_by(reasons_at(cells, rest), saying)
        if ground is None:
            i += 1
        else:
            case = rest
            dropped = dropped + ((saying, ground),)
    return (case, dropped)


class Mover:
    """A pile, what was read and said of it, and an order that meets that, which goes no further than it must.

    Each step is a tuple (entry, case, order), the case and the order behind the entry of the log. Nothing
    in a step is ever changed, so an entry can be taken back by taking away its step.
    """

    def __init__(self, pile):
        self._pile = pile
        self._cells = covered(pile)
        self._steps = []

    def __eq__(self, other):
        # Cases and orders in the steps follow from the pile and the log: so this compares no more than these.
        return isinstance(other, Mover) and self._pile == other._pile and self._steps == other._steps

    def read(self, cell, reading):
        """Reads a cell as a desk does, and returns how far the order went."""
        return self._make(("read", cell, reading))

    def say(self, saying):
        """Puts one more saying behind the others, and returns how far the order went."""
        return self._make(("say", saying))

    def drop(self, i):
        """Takes saying i away, and returns how far the order went: not at all."""
        return self._make(("drop", i))

    def trim(self):
        """Drops each saying that follows from the others then, and returns the list of these."""
        case, order = self._last()
        case, dropped = trimmed(self._cells, case)
        self._steps.append(((TRIM, dropped), case, order))
        return [saying for saying, ground in dropped]

    def undo(self):
        """Takes back the last entry of the log and returns its event, ('trim',), or None if the log is empty."""
        if self._steps == []:
            return None
        entry, _, _ = self._steps.pop()
        if entry[0] == TRIM:
            return (TRIM,)
        return entry[0]

    def case(self):
        """Returns the present case."""
        return own_case(self._last()[0])

    def order(self):
        """Returns the present order."""
        return self._last()[1]

    def book(self):
        """Returns the base of the present case."""
        return base_of(self._last()[0])

    def log(self):
        """Returns the list of the entries of the events and trims that were made and not taken back."""
        return [copied(entry) for entry, case, order in self._steps]

    def _last(self):
        """Returns the present case and order."""
        if self._steps == []:
            return beginning(self._pile)
        _, case, order = self._steps[-1]
        return (case, order)

    def _make(self, event):
        """Makes an event and returns how far the order went, or raises the error that it calls for."""
        case, order = self._last()
        case = case_behind(self._cells, case, event)
        if case is None:
            raise InvalidEvent(event)
        table = reasons_at(self._cells, case)
        jam = stuck_reasons(table, 0)
        if jam != {}:
            raise Refused(jam)
        behind, number, values = nearest_by(steps_of(table), costs_of(order))
        entry = (event, way_between(order, behind), values_by_set(table, values))
        self._steps.append((entry, case, behind))
        return number
