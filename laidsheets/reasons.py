"""Reasons of [7]: what keeps a sheet from being the topmost one of some sheets.

Some sheets are written here as one integer, a mask: bit s of it is set if sheet s is among them.
A reading at a cell and a saying are of one form then: they keep a sheet from being the topmost one
of some sheets exactly if certain sheets are all among these. Such a form is a tuple (reason, needed),
needed the mask of the certain sheets.
"""

from laidsheets.piles import covered, is_ascending, is_cell, is_integer, is_number, is_tuple


def mask_of(sheets):
    """Returns the mask of unlike sheets."""
    mask = 0
    for s in sheets:
        mask += 1 << s
    return mask


def sheets_in(mask):
    """Returns the ascending list of the sheets of a mask."""
    return [s for s in range(mask.bit_length()) if mask & (1 << s)]


def is_set(count, value):
    """Returns whether any value is an ascending tuple of different ones of so many sheets."""
    if not isinstance(value, tuple) or not all([is_number(s, 0, count - 1) for s in value]):
        return False
    return is_ascending(value)


def all_of(table):
    """Returns the mask of all sheets of a table that has an item for each."""
    return (1 << len(table)) - 1


def gone_set(table, left):
    """Returns the ascending tuple of the sheets that are no more among those left, given as a mask."""
    return tuple(sheets_in(all_of(table) - left))


def reasons_by_sheet(case):
    """Returns for each sheet the list of its (reason, needed): the cells ascending, then the sayings."""
    return reasons_at(covered(case[0]), case)


def reasons_at(cells, case):
    """Returns what reasons_by_sheet returns; cells is what covered tells of the pile, for who has it already."""
    pile, view, sayings = case
    table = [[] for sheet in pile[2]]
    # Sorted, so that the order of the view's keys means nothing for what is found.
    for cell in sorted(view):
        there = cells[cell]
        needed = mask_of([s for s, letter in there])
        for s, letter in there:
            if letter not in view[cell]:
                table[s].append((("cell", cell), needed))
    for i, (s, others) in enumerate(sayings):
        table[s].append((("saying", i), mask_of(others)))
    return table


def holds(needed, among):
    """Returns whether all the needed sheets are among some sheets, both given as masks."""
    return (needed & among) == needed


def find_reason(own, among):
    """Returns the first of a sheet's own reasons that holds among some sheets, or None."""
    for reason, needed in own:
        if holds(needed, among):
            return reason
    return None


def is_reason(own, among, value):
    """Returns whether any value is one of a sheet's own reasons and holds among some sheets."""
    if not is_tuple(value, 2) or not (is_cell(value[1]) or is_integer(value[1])):
        return False
    return any([reason == value and holds(needed, among) for reason, needed in own])


def are_reasons(table, stay, value):
    """Returns whether any value is a dict from sheets, none of them in the mask stay, to a reason of each.

    The reasons hold within these sheets and those of the mask.
    """
    if not isinstance(value, dict) or not all([is_number(s, 0, len(table) - 1) for s in value]):
        return False
    own = mask_of(value)
    if (own & stay) != 0:
        return False
    return all([is_reason(table[s], own + stay, value[s]) for s in value])


def free_sheets(table, left):
    """Returns the ascending list of the sheets that are left which can be their topmost one."""
    return [s for s in sheets_in(left) if find_reason(table[s], left) is None]


def take_off(table, left, stay):
    """Returns the list of the sheets that can be taken off those that are left, the least one first each time.

    No sheet of the mask stay is taken off. A sheet that can be taken off once can be taken off later,
    too: with fewer sheets left it has fewer reasons. So no choice on the way is wrong.
    """
    off = []
    free = [s for s in free_sheets(table, left) if not stay & (1 << s)]
    while free != []:
        off.append(free[0])
        left -= 1 << free[0]
        free = [s for s in free_sheets(table, left) if not stay & (1 << s)]
    return off


def finish_order(table, ahead):
    """Returns an order that begins with a list of sheets, which can be taken off so, or None if there is none."""
    order = ahead + take_off(table, all_of(table) - mask_of(ahead), 0)
    if len(order) < len(table):
        return None
    return tuple(order)


def order_ahead(table, s, lower):
    """Returns an order in which sheet s stands ahead of all sheets of the mask lower, or None if there is none."""
    # All that can go while those lie there goes first: if s is not among it, s lies under one in every order.
    ahead = take_off(table, all_of(table), lower)
    if s not in ahead:
        return None
    return finish_order(table, ahead)


def comes_off(table, row):
    """Returns whether different sheets can be taken off just in this row."""
    left = all_of(table)
    for s in row:
        if find_reason(table[s], left) is not None:
            return False
        left -= 1 << s
    return True


def stuck_reasons(table, stay):
    """Returns a dict from each sheet that cannot be taken off while those of the mask stay lie there to a reason.

    The reasons hold within all these sheets and those of the mask.
    """
    left = all_of(table) - mask_of(take_off(table, all_of(table), stay))
    return {s: find_reason(table[s], left) for s in sheets_in(left - stay)}
