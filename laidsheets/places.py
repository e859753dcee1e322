"""At which places of the pile a sheet can be: [9] of the document."""

from laidsheets.counts import order_with_turn, turns_of
from laidsheets.reasons import reasons_by_sheet, sheets_in


def place_of(table, turn):
    """Returns the place of the sheet of a turn: how many sheets are no more left."""
    return len(table) - len(sheets_in(turn[0]))


def places(case, s):
    """Returns the ascending list of the places of a sheet in the orders that meet a case."""
    table = reasons_by_sheet(case)
    return sorted(set([place_of(table, turn) for turn in turns_of(table) if turn[1] == s]))


def order_with(case, s, place):
    """Returns an order that meets the case with the sheet at a place, or None if there is none."""
    table = reasons_by_sheet(case)
    fitting = [turn for turn in turns_of(table) if turn[1] == s and place_of(table, turn) == place]
    return order_with_turn(table, fitting)
