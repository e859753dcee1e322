"""Distances of rows, and ways from one order that meets a case to another one: [24] of the document."""

from laidsheets.orders import is_order_of
from laidsheets.reasons import comes_off, reasons_by_sheet


def distance(row, other):
    """Returns the distance of two rows of the same sheets."""
    places = {s: place for place, s in enumerate(other)}
    return len([t for at, s in enumerate(row) for t in row[at + 1:] if places[t] < places[s]])


def exchanged(row, at):
    """Returns the row with the sheet at a place and its neighbour ahead of it exchanged."""
    return row[:at - 1] + (row[at], row[at - 1]) + row[at + 1:]


def way_between(order, other):
    """Returns a way from one order to another one that meets the same case.

    The sheets of the other order come up one after the other. Each can go there once those ahead of it in
    the other order are gone, so it can go wherever more of them are: all orders on the way meet the case.
    """
    way = [order]
    for place, s in enumerate(other):
        for at in range(order.index(s), place, -1):
            order = exchanged(order, at)
            way.append(order)
    return way


def find_way(case, order, other):
    """Returns a way from one order that meets the case to another one."""
    return way_between(order, other)


def is_way(case, order, other, value):
    """Returns whether any value is a way from one order that meets the case to another one."""
    if not isinstance(value, list) or len(value) != distance(order, other) + 1:
        return False
    table = reasons_by_sheet(case)
    if not all([is_order_of(table, row) for row in value]):
        return False
    if value[0] != order or value[-1] != other:
        return False
    return all([distance(row, after) == 1 for row, after in zip(value, value[1:])])


def next_orders(case, order):
    """Returns the ascending list of the orders that meet the case and are one exchange of neighbours away."""
    table = reasons_by_sheet(case)
    rows = [exchanged(order, at) for at in range(1, len(order))]
    return sorted([row for row in rows if comes_off(table, row)])
