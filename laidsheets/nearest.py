"""The orders nearest to a row and farthest from it, and what shows that none is nearer: [25] of the document.

A set of [25] is written here as the mask of the sheets that are not in it, of those that are left. Steps are
what steps_of tells of a case. Costs are a list that has for each sheet a list of the costs of its near step, by
the mask of what is left ahead of the step.
"""

from laidsheets.counts import steps_of
from laidsheets.misread import are_values
from laidsheets.reasons import free_sheets, gone_set, mask_of, reasons_by_sheet


def sizes_of_masks(count):
    """Returns a list that has for each mask of so many sheets the number of its sheets."""
    sizes = [0]
    for _ in range(count):
        sizes = sizes + [size + 1 for size in sizes]
    return sizes


def costs_of(row):
    """Returns the costs of near steps if a row is wanted."""
    sizes = sizes_of_masks(len(row))
    costs = [[] for s in row]
    for place, s in enumerate(row):
        ahead = mask_of(row[:place])
        costs[s] = [sizes[left & ahead] for left in range(len(sizes))]
    return costs


def least_behind(steps, costs):
    """Returns a dict from each mask of steps to the least cost of near steps from it until nothing is left."""
    least = {}
    for left in sorted(steps):
        least[left] = min([costs[s][left] + least[left - (1 << s)] for s in steps[left]], default=0)
    return least


def least_order(steps, costs, least):
    """Returns the least order whose near steps have the least cost; least is what least_behind tells."""
    order = []
    left = max(least)
    while left > 0:
        s = min([t for t in steps[left] if costs[t][left] + least[left - (1 << t)] == least[left]])
        order.append(s)
        left -= 1 << s
    return tuple(order)


def nearest_by(steps, costs):
    """Returns (order, number, values): the first two as nearest does, and near values by masks.

    A value is what the steps behind the set cost less, at least, than all steps. It is never below 0: of the steps
    of an order those of the sheets that are left can be taken behind the set, too, and cost no more there.
    """
    least = least_behind(steps, costs)
    number = least[max(least)]
    return (least_order(steps, costs, least), number, {left: number - least[left] for left in least})


def nearest(case, row):
    """Returns (order, number): the least of the orders with the least distance from a row, and this distance."""
    order, number, _ = nearest_by(steps_of(reasons_by_sheet(case)), costs_of(row))
    return (order, number)


def farthest(case, row):
    """Returns (order, number): the least of the orders with the greatest distance from a row, and this distance."""
    order, number = nearest(case, row[::-1])
    # In each order each pair of sheets stands either as in the row or as in the row turned round.
    return (order, sum(range(len(row))) - number)


def values_by_set(table, values):
    """Returns values by masks as values by sets."""
    return {gone_set(table, left): values[left] for left in values}


def find_near_values(case, row):
    """Returns near values of all sets that near steps lead to, which show the number of nearest."""
    table = reasons_by_sheet(case)
    _, _, values = nearest_by(steps_of(table), costs_of(row))
    return values_by_set(table, values)


def shows_near(case, row, value, number):
    """Returns whether any value is near values that show a number."""
    table = reasons_by_sheet(case)
    return are_near_values(table, steps_of(table), costs_of(row), value, number)


def are_near_values(table, steps, costs, value, number):
    """Returns whether any value is near values that show a number, for the case that a table and steps are of."""
    if not are_values(len(table), value):
        return False
    everything = max(steps)
    known = {everything - mask_of(some): value[some] for some in value}
    if known.get(everything, 1) != 0 or known.get(0, -1) < number:
        return False
    for left in known:
        # Sets that no step leads to may be among them.
        free = steps[left] if left in steps else free_sheets(table, left)
        for s in free:
            rest = left - (1 << s)
            if rest not in known or known[rest] > known[left] + costs[s][left]:
                return False
    return True
