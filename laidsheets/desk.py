"""Desks, which collect readings and sayings as long as an order is left: [16] of the document."""

from laidsheets.errors import InvalidEvent, Refused
from laidsheets.piles import MOST_SAYINGS, covered, is_cell, is_number, is_reading, is_saying, is_tuple
from laidsheets.reasons import finish_order, reasons_at, stuck_reasons


def case_behind(cells, case, event):
    """Returns the case behind an event, or None if any value is no event that can be made in the case.

    cells is what covered tells of the pile.
    """
    pile, view, sayings = case
    if is_read(cells, event):
        _, cell, reading = event
        old = view.get(cell, reading)
        # A new view, as the one of the case ahead is still asked for.
        fuller = {at: view[at] for at in view}
        fuller[cell] = "".join([letter for letter in reading if letter in old])
        return (pile, fuller, sayings)
    if not is_tuple(event, 2):
        return None
    kind, what = event
    if kind == "say" and is_saying(pile, what) and len(sayings) < MOST_SAYINGS:
        return (pile, view, sayings + (what,))
    if kind == "drop" and is_number(what, 0, len(sayings) - 1):
        return without_saying(case, what)
    return None


def without_saying(case, i):
    """Returns the case without saying i."""
    pile, view, sayings = case
    return (pile, view, sayings[:i] + sayings[i + 1:])


def is_read(cells, event):
    """Returns whether any value is the event that one of the covered cells is read."""
    if not is_tuple(event, 3):
        return False
    kind, cell, reading = event
    return kind == "read" and is_cell(cell) and cell in cells and is_reading(reading)


def own_case(case):
    """Returns an equal case that shares no dict with this one."""
    pile, view, sayings = case
    return (pile, {cell: view[cell] for cell in view}, sayings)


class Desk:
    """A pile, what was read and said of it, and an order that meets that.

    Each step is a tuple (event, case, order), the case and the order behind the event. Nothing
    in a step is ever changed, so an event can be taken back by taking away its step.
    """

    def __init__(self, pile):
        self._pile = pile
        self._cells = covered(pile)
        self._steps = []

    def __eq__(self, other):
        # Cases and orders in the steps follow from the pile and the events: so this compares no more than the logs.
        return isinstance(other, Desk) and self._pile == other._pile and self._steps == other._steps

    def read(self, cell, reading):
        """Reads a cell: the letters stay that stand in the old reading, if there is one, and in this one."""
        self._make(("read", cell, reading))

    def say(self, saying):
        """Puts one more saying behind the others."""
        self._make(("say", saying))

    def drop(self, i):
        """Takes saying i away."""
        self._make(("drop", i))

    def undo(self):
        """Takes back the last event of the log and returns it, or returns None if the log is empty."""
        if self._steps == []:
            return None
        event, _, _ = self._steps.pop()
        return event

    def case(self):
        """Returns the present case."""
        return own_case(self._last()[1])

    def order(self):
        """Returns the present order."""
        return self._last()[2]

    def entries(self):
        """Returns the list of the events that were made and not taken back, each with the order behind it."""
        return [(event, order) for event, case, order in self._steps]

    def _last(self):
        """Returns the last step; before the first event, one with no event."""
        if self._steps == []:
            return (None, (self._pile, {}, ()), tuple(range(len(self._pile[2]))))
        return self._steps[-1]

    def _make(self, event):
        """Makes an event, or raises the error that it calls for."""
        case = case_behind(self._cells, self._last()[1], event)
        if case is None:
            raise InvalidEvent(event)
        table = reasons_at(self._cells, case)
        order = finish_order(table, [])
        if order is None:
            raise Refused(stuck_reasons(table, 0))
        self._steps.append((event, case, order))
