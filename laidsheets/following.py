"""Sayings that follow from a case, and their grounds: [18] of the document."""

from laidsheets.reasons import are_reasons, mask_of, order_ahead, reasons_by_sheet, stuck_reasons


def find_breach(case, saying):
    """Returns an order that meets the case in which the sheet stands ahead of all its others, or None."""
    s, others = saying
    return order_ahead(reasons_by_sheet(case), s, mask_of(others))


def find_ground(case, saying):
    """Returns the ground with all sheets that the others hold, or None if the saying does not follow."""
    return ground_by(reasons_by_sheet(case), saying)


def ground_by(table, saying):
    """Returns what find_ground does, for the case that a table of reasons is of."""
    s, others = saying
    ground = stuck_reasons(table, mask_of(others))
    if s not in ground:
        return None
    return ground


def is_ground(case, saying, value):
    """Returns whether any value is a ground of the saying."""
    return is_ground_by(reasons_by_sheet(case), saying, value)


def is_ground_by(table, saying, value):
    """Returns what is_ground does, for the case that a table of reasons is of."""
    s, others = saying
    return are_reasons(table, mask_of(others), value) and s in value
