"""Orders: [6] of the document."""

from laidsheets.piles import HOLE, is_integer, is_tuple, letters_of
from laidsheets.reasons import comes_off, finish_order, reasons_by_sheet


def is_row(count, value):
    """Returns whether any value is a tuple with each of so many sheets once."""
    if not is_tuple(value, count) or not all([is_integer(s) for s in value]):
        return False
    return sorted(value) == list(range(count))


def is_order(case, value):
    """Returns whether any value is an order that meets a case."""
    return is_order_of(reasons_by_sheet(case), value)


def is_order_of(table, value):
    """Returns whether any value is an order that meets the case that a table of reasons is of."""
    return is_row(len(table), value) and comes_off(table, value)


def find_order(case):
    """Returns the least order that meets a case, or None if there is none."""
    return finish_order(reasons_by_sheet(case), [])


def seen(pile, order):
    """Returns for each row of the board a string with the seen letters and '.' elsewhere."""
    rows, columns, sheets = pile
    shown = {}
    # From the lowest sheet up, so that the topmost letter at a cell is the one that stays.
    for s in order[::-1]:
        for cell, letter in letters_of(sheets[s]):
            shown[cell] = letter
    lines = []
    for row in range(rows):
        lines.append("".join([shown.get((row, column), HOLE) for column in range(columns)]))
    return tuple(lines)
