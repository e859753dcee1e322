"""Which letters are seen at a cell, and in how many orders."""

from laidsheets.counts import order_with_turn, turns_of
from laidsheets.piles import covered
from laidsheets.reasons import mask_of, reasons_by_sheet


def turns_by_letter(turns, there, lefts):
    """Returns a dict from letters at a cell to the lists of the turns in which a sheet with the letter there goes.

    there are the (sheet, letter) at the cell, and only such turns count ahead of which just those of one of the
    masks lefts are left of its sheets.
    """
    letters = {s: letter for s, letter in there}
    cover = mask_of(letters)
    found = {}
    for turn in turns:
        left, s, _ = turn
        if s in letters and (cover & left) in lefts:
            found.setdefault(letters[s], []).append(turn)
    return found


def turns_on_top(turns, there):
    """Returns a dict from the letters seen at a cell to the turns in which the sheet goes that shows them."""
    return turns_by_letter(turns, there, [mask_of([s for s, letter in there])])


def count_letters(found):
    """Returns a dict from each letter, ascending, to the number of the orders that have a turn of it.

    Each order has just one of all these turns, so the numbers are only added up.
    """
    return {letter: sum([many for left, s, many in found[letter]]) for letter in sorted(found)}


def letter_counts(case, cell):
    """Returns a dict from each letter that is seen at a cell in some order to the number of these orders."""
    turns = turns_of(reasons_by_sheet(case))
    return count_letters(turns_on_top(turns, covered(case[0])[cell]))


def order_showing(case, cell, letter):
    """Returns an order that meets the case in which the letter is seen at the cell, or None if there is none."""
    table = reasons_by_sheet(case)
    found = turns_on_top(turns_of(table), covered(case[0])[cell])
    return order_with_turn(table, found.get(letter, []))


def best_cell(case):
    """Returns the cell with two or more letters whose most frequent one is seen least often, or None."""
    turns = turns_of(reasons_by_sheet(case))
    cells = covered(case[0])
    ranked = []
    for cell in cells:
        counts = count_letters(turns_on_top(turns, cells[cell]))
        if len(counts) >= 2:
            ranked.append((max(counts.values()), cell))
    if ranked == []:
        return None
    return min(ranked)[1]
