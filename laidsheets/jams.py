"""Jams: [7] of the document."""

from laidsheets.reasons import all_of, are_reasons, reasons_by_sheet, stuck_reasons, take_off


def taken(case):
    """Returns the ascending tuple of all sheets that can be taken off one after the other."""
    table = reasons_by_sheet(case)
    return tuple(sorted(take_off(table, all_of(table), 0)))


def find_jam(case):
    """Returns the jam of all sheets that cannot be taken off, or None if there is an order."""
    jam = stuck_reasons(reasons_by_sheet(case), 0)
    if jam == {}:
        return None
    return jam


def is_jam(case, value):
    """Returns whether any value is a jam of a case."""
    return value != {} and are_reasons(reasons_by_sheet(case), 0, value)
