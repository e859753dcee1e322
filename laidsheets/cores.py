"""Cores, the readings and sayings that alone let no order be: [14] of the document.

Readings and sayings are given here as reasons, ('cell', cell) and ('saying', i): with some of them
alone there is an order exactly if all sheets can be taken off when no other reason counts.
"""

from laidsheets.piles import is_ascending, is_cell, is_number, is_tuple
from laidsheets.reasons import finish_order, reasons_by_sheet, stuck_reasons


def is_jammed(table, given):
    """Returns whether no order is left with the given reasons alone."""
    # A dict, as there can be as many given reasons as cells, and each one of the table is looked up.
    counted = {reason: True for reason in given}
    fewer = [[(reason, needed) for reason, needed in own if reason in counted] for own in table]
    return finish_order(fewer, []) is None


def without(given, one):
    """Returns the list of some reasons but for one."""
    return [reason for reason in given if reason != one]


def find_core(case):
    """Returns a core, or None if there is an order."""
    table = reasons_by_sheet(case)
    jam = stuck_reasons(table, 0)
    if jam == {}:
        return None
    # The reasons of a jam are enough for it, and what can go from these goes, one after the other.
    core = sorted(set(list(jam.values())))
    for reason in list(core):
        if is_jammed(table, without(core, reason)):
            core = without(core, reason)
    cells = tuple([at for kind, at in core if kind == "cell"])
    return (cells, tuple([at for kind, at in core if kind == "saying"]))


def is_choice(case, value):
    """Returns whether any value is an ascending tuple of cells of the view, and one of numbers of sayings."""
    if not is_tuple(value, 2) or not isinstance(value[0], tuple) or not isinstance(value[1], tuple):
        return False
    cells, numbers = value
    last = len(case[2]) - 1
    if not all([is_cell(cell) and cell in case[1] for cell in cells]):
        return False
    if not all([is_number(i, 0, last) for i in numbers]):
        return False
    return is_ascending(cells) and is_ascending(numbers)


def is_core(case, value):
    """Returns whether any value is a core of a case."""
    if not is_choice(case, value):
        return False
    given = [("cell", cell) for cell in value[0]] + [("saying", i) for i in value[1]]
    table = reasons_by_sheet(case)
    if not is_jammed(table, given):
        return False
    return not any([is_jammed(table, without(given, reason)) for reason in given])
