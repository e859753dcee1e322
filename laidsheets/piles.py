"""Piles, views, sayings and cases: [4] and [5] of the document."""

LONGEST_SIDE = 8
MOST_SHEETS = 10
MOST_SAYINGS = 6
HOLE = "."


def is_integer(value):
    """Returns whether a value is an int that is not a bool."""
    return isinstance(value, int) and not isinstance(value, bool)


def is_number(value, least, most):
    """Returns whether a value is an integer from least to most."""
    return is_integer(value) and least <= value <= most


def is_tuple(value, size):
    """Returns whether a value is a tuple of so many items."""
    return isinstance(value, tuple) and len(value) == size


def is_ascending(items):
    """Returns whether each item of a string, or of a tuple of integers or of cells, is greater than the one before."""
    return all([low < high for low, high in zip(items, items[1:])])


def is_letter(sign):
    """Returns whether a sign of a string is one of a to z."""
    return "a" <= sign <= "z"


def is_reading(value):
    """Returns whether a value is an ascending string of different letters."""
    return isinstance(value, str) and all([is_letter(sign) for sign in value]) and is_ascending(value)


def is_cell(value):
    """Returns whether a value is a tuple of two integers, as a cell is."""
    return is_tuple(value, 2) and is_integer(value[0]) and is_integer(value[1])


def is_line(value):
    """Returns whether a value is a string of letters and holes."""
    return isinstance(value, str) and all([is_letter(sign) or sign == HOLE for sign in value])


def is_picture(value):
    """Returns whether a value is a picture."""
    if not isinstance(value, tuple) or not all([is_line(line) for line in value]):
        return False
    if not all([len(line) == len(value[0]) for line in value]):
        return False
    # Where there is a letter, there is a line, and lines as long as the one with it are not empty.
    return any([is_letter(sign) for line in value for sign in line])


def is_sheet(rows, columns, value):
    """Returns whether a value is a sheet that lies wholly on a board."""
    if not is_tuple(value, 3):
        return False
    row, column, picture = value
    if not is_integer(row) or not is_integer(column) or not is_picture(picture):
        return False
    return 0 <= row <= rows - len(picture) and 0 <= column <= columns - len(picture[0])


def is_board(rows, columns):
    """Returns whether two values are the numbers of rows and columns of a board."""
    return is_number(rows, 1, LONGEST_SIDE) and is_number(columns, 1, LONGEST_SIDE)


def is_pile(value):
    """Returns whether any value is a pile."""
    if not is_tuple(value, 3):
        return False
    rows, columns, sheets = value
    if not is_board(rows, columns):
        return False
    if not isinstance(sheets, tuple) or not 1 <= len(sheets) <= MOST_SHEETS:
        return False
    return all([is_sheet(rows, columns, sheet) for sheet in sheets])


def is_case(value):
    """Returns whether any value is a case."""
    if not is_tuple(value, 3):
        return False
    pile, view, sayings = value
    return is_pile(pile) and is_view(pile, view) and are_sayings(pile, sayings)


def are_sayings(pile, value):
    """Returns whether any value is a tuple of at most six sayings about the sheets of a pile, or of a loose one."""
    if not isinstance(value, tuple) or len(value) > MOST_SAYINGS:
        return False
    return all([is_saying(pile, saying) for saying in value])


def is_view(pile, value):
    """Returns whether any value is a view of a pile."""
    if not isinstance(value, dict):
        return False
    cells = covered(pile)
    # A key (True, 0) would be found among the cells as (1, 0): so each key is first asked for its kind.
    return all([is_cell(cell) and cell in cells and is_reading(value[cell]) for cell in value])


def is_saying(pile, value):
    """Returns whether any value is a saying about the sheets of a pile."""
    return is_saying_among(len(pile[2]), value)


def is_saying_among(count, value):
    """Returns whether any value is a saying about so many sheets."""
    if not is_tuple(value, 2):
        return False
    s, others = value
    if not is_number(s, 0, count - 1) or not isinstance(others, tuple) or others == ():
        return False
    if not all([is_number(other, 0, count - 1) for other in others]):
        return False
    return is_ascending(others) and s not in others


def letters_of(sheet):
    """Returns the ascending list of the tuples (cell, letter) of what a sheet covers."""
    row, column, picture = sheet
    return [
        ((row + down, column + right), sign)
        for down, line in enumerate(picture)
        for right, sign in enumerate(line)
        if sign != HOLE
    ]


def covered(pile):
    """Returns a dict from each covered cell to the ascending list of (sheet, letter) of the sheets there."""
    cells = {}
    for s, sheet in enumerate(pile[2]):
        for cell, letter in letters_of(sheet):
            cells.setdefault(cell, []).append((s, letter))
    return cells
