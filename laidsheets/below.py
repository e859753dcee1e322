"""Piles that are read from above and from below: [13] of the document.

A set of [13] is written here as the mask of the sheets that are not in it, of those that are left.
"""

from laidsheets.misread import row_back
from laidsheets.orders import is_row
from laidsheets.piles import covered
from laidsheets.reasons import all_of, free_sheets, gone_set, is_set, mask_of, reasons_by_sheet


def shields_by_sheet(glass):
    """Returns for each sheet a list of masks, one for each cell below at which its letter does not fit.

    The mask is of the other sheets that cover the cell. One of them must lie under the sheet.
    """
    case, under = glass
    cells = covered(case[0])
    shields = [[] for sheet in case[0][2]]
    for cell in under:
        there = cells[cell]
        for s, letter in there:
            if letter not in under[cell]:
                shields[s].append(mask_of([other for other, sign in there]) - (1 << s))
    return shields


def glass_steps(table, shields, left):
    """Returns the ascending list of the sheets that a glass step can take when some sheets are left."""
    return [s for s in free_sheets(table, left) if all([(shield & left) != 0 for shield in shields[s]])]


def last_steps(table, shields):
    """Returns a dict from each mask that glass steps lead to to the sheet that the last one takes there."""
    last = {all_of(table): None}
    # Downwards, as a mask becomes less by each step.
    for left in range(all_of(table), -1, -1):
        if left in last:
            for s in glass_steps(table, shields, left):
                last[left - (1 << s)] = s
    return last


def is_glass_order(glass, value):
    """Returns whether any value is an order that meets a glass case."""
    table = reasons_by_sheet(glass[0])
    if not is_row(len(table), value):
        return False
    shields = shields_by_sheet(glass)
    left = all_of(table)
    for s in value:
        if s not in glass_steps(table, shields, left):
            return False
        left -= 1 << s
    return True


def find_glass(glass):
    """Returns an order that meets a glass case, or None if there is none."""
    table = reasons_by_sheet(glass[0])
    last = last_steps(table, shields_by_sheet(glass))
    if 0 not in last:
        return None
    return row_back(table, last)


def find_glass_table(glass):
    """Returns the ascending list of the sets that glass steps lead to, or None if an order meets the glass case."""
    table = reasons_by_sheet(glass[0])
    last = last_steps(table, shields_by_sheet(glass))
    if 0 in last:
        return None
    return sorted([gone_set(table, left) for left in last])


def is_glass_table(glass, value):
    """Returns whether any value is a glass table."""
    table = reasons_by_sheet(glass[0])
    if not isinstance(value, list) or not all([is_set(len(table), some) for some in value]):
        return False
    known = {all_of(table) - mask_of(some): True for some in value}
    # As many masks as sets: no set stands there twice.
    if len(known) < len(value) or all_of(table) not in known or 0 in known:
        return False
    shields = shields_by_sheet(glass)
    return all([left - (1 << s) in known for left in known for s in glass_steps(table, shields, left)])
