"""Books of sayings, the base of a case, and grounds in a book: [20], [21] and [22] of the document."""

from laidsheets.counts import steps_of
from laidsheets.following import ground_by
from laidsheets.piles import is_ascending, is_integer, is_number, is_saying_among
from laidsheets.reasons import all_of, find_reason, is_reason, mask_of, reasons_by_sheet, sheets_in, take_off


def is_book(n, value):
    """Returns whether any value is a book for n sheets."""
    if not isinstance(value, tuple) or not all([is_saying_among(n, saying) for saying in value]):
        return False
    return is_ascending(value)


def meets(book, row):
    """Returns whether a row meets a book for as many sheets."""
    places = {s: place for place, s in enumerate(row)}
    return all([min([places[other] for other in others]) < places[s] for s, others in book])


def base_of(case):
    """Returns the base of a case."""
    return base_of_table(reasons_by_sheet(case))


def base_of_table(table):
    """Returns the base of the case that a table of reasons is of."""
    steps = steps_of(table)
    free = {left: mask_of(steps[left]) for left in steps}
    sayings = []
    for left in steps:
        held = left - free[left]
        # With nothing left there is no sheet to be held, and with all left that fit none.
        for other in steps[left]:
            held = held & free[left - (1 << other)]
        sayings.extend([(s, tuple(steps[left])) for s in sheets_in(held)])
    return tuple(sorted(sayings))


def row_ahead(table, saying):
    """Returns a row of the top set that a saying of the base comes from: of all that can go ahead of its others."""
    _, others = saying
    return take_off(table, all_of(table), mask_of(others))


def left_behind(table, saying):
    """Returns the mask of the sheets that are not in the top set that a saying of the base comes from."""
    return all_of(table) - mask_of(row_ahead(table, saying))


def find_source(case, saying):
    """Returns a source of a saying of the base."""
    table = reasons_by_sheet(case)
    return find_reason(table[saying[0]], left_behind(table, saying))


def is_source(case, saying, value):
    """Returns whether any value is a source of a saying of the base."""
    table = reasons_by_sheet(case)
    return is_reason(table[saying[0]], left_behind(table, saying), value)


def table_of_book(book, saying):
    """Returns for each sheet, up to the last one in a book or a saying, the list of (number, mask of the others).

    The numbers are those of the sayings of the book about the sheet, which stand for the reasons of a case.
    """
    last = max([max((s,) + others) for s, others in book + (saying,)])
    table = [[] for s in range(last + 1)]
    for number, (s, others) in enumerate(book):
        table[s].append((number, mask_of(others)))
    return table


def find_book_ground(book, saying):
    """Returns the ground in a book with all sheets that the others hold, or None if there is none."""
    return ground_by(table_of_book(book, saying), saying)


def is_book_ground(book, saying, value):
    """Returns whether any value is a ground of the saying in the book."""
    s, others = saying
    if not isinstance(value, dict) or not all([is_integer(t) for t in value]):
        return False
    if s not in value or any([other in value for other in others]):
        return False
    # A dict, as any value can have very many keys.
    among = {t: True for t in list(value) + list(others)}
    return all([holds_in_book(book, t, among, value[t]) for t in value])


def holds_in_book(book, s, among, value):
    """Returns whether any value is the number of a saying of the book about a sheet, its others among some sheets."""
    if not is_number(value, 0, len(book) - 1):
        return False
    about, others = book[value]
    return about == s and all([other in among for other in others])
