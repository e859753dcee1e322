"""How many orders there are at each distance from a row, and with each sheet ahead of each: [26] of the document."""

from laidsheets.counts import steps_of, turns_of
from laidsheets.nearest import costs_of
from laidsheets.reasons import all_of, reasons_by_sheet, sheets_in


def counts_behind(steps, costs):
    """Returns a dict from each mask of steps to a list of how many rows of its sheets cost 0, 1 and so on."""
    counts = {}
    for left in sorted(steps):
        many = [0] * (sum(range(len(sheets_in(left)))) + 1)
        for s in steps[left]:
            for number, rows in enumerate(counts[left - (1 << s)]):
                many[number + costs[s][left]] += rows
        counts[left] = many
        # That nothing is left is an end that can be come to in one way.
        if left == 0:
            counts[left] = [1]
    return counts


def distances(case, row):
    """Returns for each distance from a row, from 0 on, the number of orders that meet the case and have it."""
    table = reasons_by_sheet(case)
    return counts_behind(steps_of(table), costs_of(row))[all_of(table)]


def some_cost(counts, left, number):
    """Returns whether some row of the sheets that are left costs just this number, perhaps one below 0."""
    return 0 <= number < len(counts[left]) and counts[left][number] > 0


def order_apart(case, row, number):
    """Returns the least order that meets the case and has this distance from a row, or None if there is none."""
    table = reasons_by_sheet(case)
    steps = steps_of(table)
    costs = costs_of(row)
    counts = counts_behind(steps, costs)
    left = all_of(table)
    if not some_cost(counts, left, number):
        return None
    order = []
    while left > 0:
        s = min([t for t in steps[left] if some_cost(counts, left - (1 << t), number - costs[t][left])])
        order.append(s)
        number -= costs[s][left]
        left -= 1 << s
    return tuple(order)


def pair_counts(case):
    """Returns a dict from each pair (s, t) of unlike sheets to the number of orders with s ahead of t."""
    table = reasons_by_sheet(case)
    count = len(table)
    pairs = {(s, t): 0 for s in range(count) for t in range(count) if s != t}
    for left, s, many in turns_of(table):
        # All that are left behind the turn of s stand behind it in the orders of the turn.
        for t in sheets_in(left - (1 << s)):
            pairs[(s, t)] += many
    return pairs
