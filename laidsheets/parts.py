"""Sheets that perhaps were not laid: [11] of the document."""

from laidsheets.jams import is_jam
from laidsheets.piles import covered, is_cell, is_number, is_tuple
from laidsheets.reasons import all_of, comes_off, reasons_by_sheet, stuck_reasons, take_off


def bare_cell(case, some):
    """Returns the least cell of the view that none of some sheets covers, or None if there is none."""
    cells = covered(case[0])
    for cell in sorted(case[1]):
        if not any([s in some for s, letter in cells[cell]]):
            return cell
    return None


def find_part(case):
    """Returns a part order with as many sheets as possible, or None if there is no part order.

    No sheet that cannot be taken off can have been laid; all the others can have been, in the row
    in which they were taken off.
    """
    table = reasons_by_sheet(case)
    laid = take_off(table, all_of(table), 0)
    if bare_cell(case, laid) is not None:
        return None
    return tuple(laid)


def is_part(case, value):
    """Returns whether any value is a part order."""
    table = reasons_by_sheet(case)
    if not isinstance(value, tuple) or not all([is_number(s, 0, len(table) - 1) for s in value]):
        return False
    if len(set(value)) < len(value):
        return False
    return comes_off(table, value) and bare_cell(case, value) is None


def find_part_jam(case):
    """Returns a part jam with all sheets that cannot have been laid, or None if there is a part order."""
    table = reasons_by_sheet(case)
    cell = bare_cell(case, take_off(table, all_of(table), 0))
    if cell is None:
        return None
    return (cell, stuck_reasons(table, 0))


def is_part_jam(case, value):
    """Returns whether any value is a part jam."""
    if not is_tuple(value, 2):
        return False
    cell, jam = value
    # A cell (0, True) would be found in the view as (0, 1): so it is first asked for its kind.
    if not is_cell(cell) or cell not in case[1] or not is_jam(case, jam):
        return False
    return all([s in jam for s, letter in covered(case[0])[cell]])
