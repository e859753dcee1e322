"""What lies above what in all orders, and held jams: [8] of the document."""

from laidsheets.reasons import are_reasons, order_ahead, reasons_by_sheet, stuck_reasons


def find_above(case, s, t):
    """Returns an order that meets the case in which s stands ahead of t, or None if there is none."""
    return order_ahead(reasons_by_sheet(case), s, 1 << t)


def find_held(case, s, t):
    """Returns the held jam of all sheets that s holds, or None if t is not among them."""
    held = stuck_reasons(reasons_by_sheet(case), 1 << s)
    if t not in held:
        return None
    return held


def is_held(case, s, t, value):
    """Returns whether any value is a held jam for s and t."""
    return are_reasons(reasons_by_sheet(case), 1 << s, value) and t in value


def above_table(case):
    """Returns the ascending list of the pairs (s, t) such that s stands ahead of t in all orders."""
    table = reasons_by_sheet(case)
    return [(s, t) for s in range(len(table)) for t in stuck_reasons(table, 1 << s)]
