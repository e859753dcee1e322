"""Which orders meet one case and not another one of the same pile, and what can be read where nothing was."""

from laidsheets.counts import turns_of
from laidsheets.letters import turns_on_top
from laidsheets.piles import covered
from laidsheets.reasons import order_ahead, reasons_by_sheet


def find_only(case, other):
    """Returns an order that meets the first case and not the other one, or None if there is none.

    An order does not meet the other one if some sheet stands in it ahead of all sheets that a reason
    of this sheet needs there.
    """
    table = reasons_by_sheet(case)
    for s, own in enumerate(reasons_by_sheet(other)):
        # Several cells may need the same sheets: each mask is tried once.
        for needed in sorted(set([mask for reason, mask in own])):
            lower = needed - (needed & (1 << s))
            order = order_ahead(table, s, lower)
            if order is not None:
                return order
    return None


def implies(case, other):
    """Returns whether each order that meets the first case meets the other one."""
    return find_only(case, other) is None


def same_orders(case, other):
    """Returns whether the same orders meet both cases."""
    return implies(case, other) and implies(other, case)


def narrowed(case):
    """Returns the case with a view of all covered cells: at each the letters that are seen there in its orders."""
    pile, view, sayings = case
    turns = turns_of(reasons_by_sheet(case))
    cells = covered(pile)
    return (pile, {cell: "".join(sorted(turns_on_top(turns, cells[cell]))) for cell in cells}, sayings)
