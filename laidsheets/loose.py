"""Sheets that lie at one of several spots each: [15] of the document."""

from laidsheets.counts import count_orders
from laidsheets.jams import find_jam, is_jam
from laidsheets.orders import find_order
from laidsheets.piles import MOST_SHEETS, are_sayings, covered, is_ascending, is_board, is_cell, is_reading, is_sheet
from laidsheets.piles import is_tuple

MOST_SPOTS = 4
MOST_PLACINGS = 48


def is_loose_sheet(rows, columns, value):
    """Returns whether any value is a tuple of spots and of a picture that lies on a board at each of them."""
    if not is_tuple(value, 2):
        return False
    spots, picture = value
    if not isinstance(spots, tuple) or not 1 <= len(spots) <= MOST_SPOTS:
        return False
    if not all([is_cell(spot) and is_sheet(rows, columns, spot + (picture,)) for spot in spots]):
        return False
    return is_ascending(spots)


def is_loose(value):
    """Returns whether any value is a loose pile."""
    if not is_tuple(value, 3):
        return False
    rows, columns, loose = value
    if not is_board(rows, columns):
        return False
    if not isinstance(loose, tuple) or not 1 <= len(loose) <= MOST_SHEETS:
        return False
    if not all([is_loose_sheet(rows, columns, item) for item in loose]):
        return False
    many = 1
    for spots, _ in loose:
        many = many * len(spots)
    return many <= MOST_PLACINGS


def is_loose_case(value):
    """Returns whether any value is a loose case."""
    if not is_tuple(value, 3):
        return False
    loose_pile, view, sayings = value
    return is_loose(loose_pile) and is_loose_view(loose_pile, view) and are_sayings(loose_pile, sayings)


def is_loose_view(loose_pile, value):
    """Returns whether any value is a dict from cells of the board to readings."""
    if not isinstance(value, dict):
        return False
    rows, columns, _ = loose_pile
    return all([is_cell(cell) and 0 <= cell[0] < rows and 0 <= cell[1] < columns and is_reading(value[cell])
                for cell in value])


def placings_of(loose_case):
    """Returns the ascending list of all placings."""
    placings = [()]
    for spots, _ in loose_case[0][2]:
        placings = [placing + (spot,) for placing in placings for spot in spots]
    return placings


def pile_at(loose_case, placing):
    """Returns the pile of the sheets at their spots."""
    rows, columns, loose = loose_case[0]
    return (rows, columns, tuple([spot + (item[1],) for spot, item in zip(placing, loose)]))


def bare_cells(loose_case, placing):
    """Returns the ascending list of the cells of the view that no sheet covers at a placing."""
    cells = covered(pile_at(loose_case, placing))
    return [cell for cell in sorted(loose_case[1]) if cell not in cells]


def case_at(loose_case, placing):
    """Returns the case at a placing, or None if the loose case is bare there."""
    if bare_cells(loose_case, placing) != []:
        return None
    _, view, sayings = loose_case
    return (pile_at(loose_case, placing), {cell: view[cell] for cell in view}, sayings)


def order_at(loose_case, placing):
    """Returns an order that meets the case at a placing, or None if the placing is not right."""
    case = case_at(loose_case, placing)
    if case is None:
        return None
    return find_order(case)


def right_placings(loose_case):
    """Returns the ascending list of the right placings."""
    return [placing for placing in placings_of(loose_case) if order_at(loose_case, placing) is not None]


def find_placing(loose_case):
    """Returns the least right placing and an order that meets the case there, or None if no placing is right."""
    for placing in placings_of(loose_case):
        order = order_at(loose_case, placing)
        if order is not None:
            return (placing, order)
    return None


def find_bar(loose_case, placing):
    """Returns what shows that a placing is not right, or None if it is right."""
    bare = bare_cells(loose_case, placing)
    if bare != []:
        return ("bare", bare[0])
    jam = find_jam(case_at(loose_case, placing))
    if jam is None:
        return None
    return ("jam", jam)


def find_bars(loose_case):
    """Returns bars, or None if some placing is right."""
    bars = {placing: find_bar(loose_case, placing) for placing in placings_of(loose_case)}
    if None in list(bars.values()):
        return None
    return bars


def is_bar(loose_case, placing, value):
    """Returns whether any value shows that a placing is not right, as bars do."""
    if not is_tuple(value, 2):
        return False
    kind, shown = value
    if kind == "bare":
        return is_cell(shown) and shown in bare_cells(loose_case, placing)
    case = case_at(loose_case, placing)
    return kind == "jam" and case is not None and is_jam(case, shown)


def is_placing(count, value):
    """Returns whether any value is a tuple of so many tuples of two integers, as a placing is."""
    return is_tuple(value, count) and all([is_cell(spot) for spot in value])


def is_bars(loose_case, value):
    """Returns whether any value is bars of a loose case."""
    count = len(loose_case[0][2])
    # A key with a truth in it would be found as the placing that it equals: so each key is asked for its kind.
    if not isinstance(value, dict) or not all([is_placing(count, placing) for placing in value]):
        return False
    placings = placings_of(loose_case)
    if sorted(value) != placings:
        return False
    return all([is_bar(loose_case, placing, value[placing]) for placing in placings])


def count_placings(loose_case):
    """Returns the number of right placings, and the number of orders that meet their cases, added up."""
    counts = [count_orders(case_at(loose_case, placing)) for placing in right_placings(loose_case)]
    return (len(counts), sum(counts))


def sure_spots(loose_case):
    """Returns for each sheet the ascending list of its spots in right placings."""
    placings = right_placings(loose_case)
    return [sorted(set([placing[s] for placing in placings])) for s in range(len(loose_case[0][2]))]
