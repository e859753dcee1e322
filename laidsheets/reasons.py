"""Reasons of [7]: what keeps a sheet from being the topmost one of some sheets.

Some sheets are written here as one integer, a mask: bit s of it is set if sheet s is among them.
A reading at a cell and a saying are of one form then: they keep a sheet from being the topmost one
of some sheets exactly if certain sheets are all among these. Such a form is a tuple (reason, needed),
needed the mask of the certain sheets.
"""

from laidsheets.piles import covered, is_cell, is_integer, is_tuple


def mask_of(sheets):
    """Returns the mask of unlike sheets."""
    mask = 0
    for s in sheets:
        mask += 1 << s
    return mask


def reasons_by_sheet(case):
    """Returns for each sheet the list of its (reason, needed): the cells ascending, then the sayings."""
    pile, view, sayings = case
    cells = covered(pile)
    table = [[] for sheet in pile[2]]
    # Sorted, so that the order of the view's keys means nothing for what is found.
    for cell in sorted(view):
        there = cells[cell]
        needed = mask_of([s for s, letter in there])
        for s, letter in there:
            if letter not in view[cell]:
                table[s].append((("cell", cell), needed))
    for i, (s, others) in enumerate(sayings):
        table[s].append((("saying", i), mask_of(others)))
    return table


def holds(needed, among):
    """Returns whether all the needed sheets are among some sheets, both given as masks."""
    return (needed & among) == needed


def find_reason(own, among):
    """Returns the first of a sheet's own reasons that holds among some sheets, or None."""
    for reason, needed in own:
        if holds(needed, among):
            return reason
    return None


def is_reason(own, among, value):
    """Returns whether any value is one of a sheet's own reasons and holds among some sheets."""
    if not is_tuple(value, 2) or not (is_cell(value[1]) or is_integer(value[1])):
        return False
    return any([reason == value and holds(needed, among) for reason, needed in own])


def find_free(table, left):
    """Returns the least of the sheets that are left which can be their topmost one, or None."""
    for s, own in enumerate(table):
        if left & (1 << s) and find_reason(own, left) is None:
            return s
    return None


def take_off(table):
    """Returns the list of the sheets that can be taken off, the least one first each time.

    A sheet that can be taken off once can be taken off later, too: with fewer sheets left it has
    fewer reasons. So no choice on the way is wrong.
    """
    left = (1 << len(table)) - 1
    off = []
    s = find_free(table, left)
    while s is not None:
        off.append(s)
        left -= 1 << s
        s = find_free(table, left)
    return off
