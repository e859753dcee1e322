"""Misread cells: [12] of the document.

A set of [12] is written here as the mask of the sheets that are not in it, of those that are left.
"""

from laidsheets.piles import is_integer
from laidsheets.reasons import all_of, gone_set, holds, is_set, mask_of, reasons_by_sheet, sheets_in


def step_cost(own, left):
    """Returns the cost of the step that takes a sheet with these reasons, or None if a saying keeps it from going."""
    cost = 0
    for reason, needed in own:
        if holds(needed, left):
            if reason[0] == "saying":
                return None
            cost += 1
    return cost


def steps_from(table, left):
    """Returns the ascending list of the tuples (s, cost) of the steps that can be taken when some sheets are left."""
    costs = [(s, step_cost(table[s], left)) for s in sheets_in(left)]
    return [(s, cost) for s, cost in costs if cost is not None]


def least_costs(table):
    """Returns a dict from each mask that steps lead to to (value, s).

    The value is the least cost of steps that lead there, added up, and s the sheet that the last of them takes.
    """
    least = {all_of(table): (0, None)}
    # Downwards, as a mask becomes less by each step.
    for left in range(all_of(table), -1, -1):
        if left in least:
            for s, cost in steps_from(table, left):
                value = least[left][0] + cost
                rest = left - (1 << s)
                if rest not in least or value < least[rest][0]:
                    least[rest] = (value, s)
    return least


def fewest_misread(case):
    """Returns the least number of cells that an order that is let by misreads, or None if no order is let by."""
    least = least_costs(reasons_by_sheet(case))
    if 0 not in least:
        return None
    return least[0][0]


def find_misread(case):
    """Returns an order that is let by with as few misread cells as any, or None if no order is let by."""
    table = reasons_by_sheet(case)
    least = least_costs(table)
    if 0 not in least:
        return None
    return row_back(table, {left: least[left][1] for left in least})


def row_back(table, last):
    """Returns the row of all sheets that leads to where none is left; last tells for masks which sheet went last."""
    row = []
    left = 0
    while left != all_of(table):
        row.append(last[left])
        left += 1 << last[left]
    return tuple(row[::-1])


def find_values(case):
    """Returns as values the least cost of the steps that lead to each set, for all sets that steps lead to."""
    table = reasons_by_sheet(case)
    least = least_costs(table)
    return {gone_set(table, left): least[left][0] for left in least}


def are_values(count, value):
    """Returns whether any value is a dict from sets of so many sheets to integers from 0 on."""
    if not isinstance(value, dict) or not all([is_set(count, some) for some in value]):
        return False
    return all([is_integer(number) and number >= 0 for number in value.values()])


def shows(case, value, number):
    """Returns whether any value is values that show a number."""
    table = reasons_by_sheet(case)
    if not are_values(len(table), value):
        return False
    known = {all_of(table) - mask_of(some): value[some] for some in value}
    if known.get(all_of(table), 1) != 0 or known.get(0, number) < number:
        return False
    for left in known:
        for s, cost in steps_from(table, left):
            rest = left - (1 << s)
            if rest not in known or known[rest] > known[left] + cost:
                return False
    return True
