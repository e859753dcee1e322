"""Logs of desks, which are checked by looking at orders alone: [17] of the document."""

from laidsheets.desk import case_behind
from laidsheets.orders import is_order_of
from laidsheets.piles import covered, is_tuple
from laidsheets.reasons import reasons_at


def log(desk):
    """Returns the log of a desk."""
    return desk.entries()


def is_log(pile, value):
    """Returns whether any value is a log for a pile."""
    if not isinstance(value, list):
        return False
    cells = covered(pile)
    case = (pile, {}, ())
    for entry in value:
        if not is_tuple(entry, 2):
            return False
        event, order = entry
        case = case_behind(cells, case, event)
        if case is None or not is_order_of(reasons_at(cells, case), order):
            return False
    return True


def replayed(pile, log):
    """Returns the case behind a log."""
    cells = covered(pile)
    case = (pile, {}, ())
    for event, _ in log:
        case = case_behind(cells, case, event)
    return case
