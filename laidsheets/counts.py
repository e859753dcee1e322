"""How many orders meet a case, which is the one of a number, and in how many a sheet is taken off at a certain time.

Some sheets are masks here, as in laidsheets.reasons. A turn is a tuple (left, s, many): in so many orders that
meet the case, one or more, sheet s is the next one when just the sheets of the mask left are left, s among them.
"""

from laidsheets.reasons import all_of, finish_order, free_sheets, reasons_by_sheet, take_off


def steps_of(table):
    """Returns a dict from each mask of sheets that can be left to the ascending list of those that can go next."""
    steps = {all_of(table): []}
    # Downwards, as a mask becomes less by each sheet that goes.
    for left in range(all_of(table), -1, -1):
        if left in steps:
            free = free_sheets(table, left)
            steps[left] = free
            for s in free:
                steps[left - (1 << s)] = []
    return steps


def rows_by_left(steps):
    """Returns a dict from each mask of the steps to the number of rows in which all its sheets can go."""
    rows = {}
    for left in sorted(steps):
        rows[left] = sum([rows[left - (1 << s)] for s in steps[left]])
        # That nothing is left is an end that can be come to in one way.
        if left == 0:
            rows[left] = 1
    return rows


def turns_of(table):
    """Returns the list of all turns, each once; it is empty if no order meets the case."""
    steps = steps_of(table)
    behind = rows_by_left(steps)
    ahead = {left: 0 for left in steps}
    ahead[all_of(table)] = 1
    turns = []
    for left in sorted(steps, reverse=True):
        for s in steps[left]:
            rest = left - (1 << s)
            ahead[rest] += ahead[left]
            turns.append((left, s, ahead[left] * behind[rest]))
    return [turn for turn in turns if turn[2] > 0]


def order_with_turn(table, turns):
    """Returns an order in which the first one of some turns comes, or None if these are none."""
    if turns == []:
        return None
    left, s, _ = turns[0]
    return finish_order(table, take_off(table, all_of(table), left) + [s])


def count_orders(case):
    """Returns the number of orders that meet a case."""
    table = reasons_by_sheet(case)
    return rows_by_left(steps_of(table))[all_of(table)]


def nth_order(case, n):
    """Returns the order before which there are just n in ascending order, or None if there is none."""
    table = reasons_by_sheet(case)
    steps = steps_of(table)
    rows = rows_by_left(steps)
    left = all_of(table)
    if n >= rows[left]:
        return None
    order = []
    while left > 0:
        # All orders that go on with a lesser sheet come ahead of those that go on with a greater one.
        for s in steps[left]:
            rest = left - (1 << s)
            if n < rows[rest]:
                break
            n -= rows[rest]
        order.append(s)
        left = rest
    return tuple(order)


def number_of(case, order):
    """Returns how many orders that meet a case there are before one of them in ascending order."""
    table = reasons_by_sheet(case)
    steps = steps_of(table)
    rows = rows_by_left(steps)
    left = all_of(table)
    number = 0
    for s in order:
        number += sum([rows[left - (1 << other)] for other in steps[left] if other < s])
        left -= 1 << s
    return number
