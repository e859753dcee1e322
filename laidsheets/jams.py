"""Jams: [7] of the document."""

from laidsheets.piles import is_number
from laidsheets.reasons import find_reason, is_reason, mask_of, reasons_by_sheet, take_off


def taken(case):
    """Returns the ascending tuple of all sheets that can be taken off one after the other."""
    return tuple(sorted(take_off(reasons_by_sheet(case))))


def find_jam(case):
    """Returns the jam of all sheets that cannot be taken off, or None if there is an order."""
    table = reasons_by_sheet(case)
    off = take_off(table)
    stuck = [s for s in range(len(table)) if s not in off]
    if stuck == []:
        return None
    among = mask_of(stuck)
    return {s: find_reason(table[s], among) for s in stuck}


def is_jam(case, value):
    """Returns whether any value is a jam of a case."""
    if not isinstance(value, dict) or value == {}:
        return False
    table = reasons_by_sheet(case)
    if not all([is_number(s, 0, len(table) - 1) for s in value]):
        return False
    among = mask_of(value)
    return all([is_reason(table[s], among, value[s]) for s in value])
