"""Logs of movers, which are checked with no search but for the least orders and for what stays in a trim: [29]."""

from laidsheets.counts import steps_of
from laidsheets.desk import case_behind, without_saying
from laidsheets.following import is_ground_by
from laidsheets.movers import TRIM, beginning, trimmed
from laidsheets.nearest import are_near_values, costs_of, nearest_by
from laidsheets.piles import covered, is_saying, is_tuple
from laidsheets.reasons import reasons_at, stuck_reasons
from laidsheets.ways import is_way


def behind_event(cells, case, order, entry):
    """Returns the case and the order behind the event of an entry of three values, or None if it is not right.

    cells is what covered tells of the pile.
    """
    event, move, values = entry
    behind = case_behind(cells, case, event)
    if behind is None:
        return None
    table = reasons_at(cells, behind)
    if stuck_reasons(table, 0) != {}:
        return None
    steps = steps_of(table)
    costs = costs_of(order)
    least, number, _ = nearest_by(steps, costs)
    if not is_way(case, order, least, move) or not are_near_values(table, steps, costs, values, number):
        return None
    return (behind, least)


def behind_trim(cells, case, value):
    """Returns the case behind a trim, or None if any value is not what a trim drops with its grounds."""
    behind, dropped = trimmed(cells, case)
    if not is_tuple(value, len(dropped)):
        return None
    for (saying, _), pair in zip(dropped, value):
        if not is_tuple(pair, 2) or not is_saying(case[0], pair[0]) or pair[0] != saying:
            return None
        case = case_without(case, saying)
        if not is_ground_by(reasons_at(cells, case), saying, pair[1]):
            return None
    return behind


def case_without(case, saying):
    """Returns the case without a saying that goes in a trim.

    It is the first one that is equal: one that stays does not follow from those behind it, so none of them equals it.
    """
    return without_saying(case, case[2].index(saying))


def behind_entry(cells, case, order, entry):
    """Returns the case and the order behind any value as an entry, or None if it is not right there."""
    if is_tuple(entry, 3):
        return behind_event(cells, case, order, entry)
    if not is_tuple(entry, 2) or entry[0] != TRIM:
        return None
    behind = behind_trim(cells, case, entry[1])
    if behind is None:
        return None
    return (behind, order)


def first_mover_fault(pile, value):
    """Returns the number of the first entry of a list that is not right, or None if it is a mover log for the pile."""
    cells = covered(pile)
    last = beginning(pile)
    for number, entry in enumerate(value):
        case, order = last
        last = behind_entry(cells, case, order, entry)
        if last is None:
            return number
    return None


def is_mover_log(pile, value):
    """Returns whether any value is a mover log for a pile."""
    return isinstance(value, list) and first_mover_fault(pile, value) is None


def mover_behind(pile, log):
    """Returns (case, order) behind a mover log."""
    cells = covered(pile)
    case, order = beginning(pile)
    for entry in log:
        if entry[0] == TRIM:
            for saying, _ in entry[1]:
                case = case_without(case, saying)
        else:
            event, move, _ = entry
            case = case_behind(cells, case, event)
            order = move[-1]
    # A log without events leaves the case of the beginning, which is new, too.
    return (case, order)
