"""Second letters: [10] of the document."""

from laidsheets.counts import order_with_turn, turns_of
from laidsheets.letters import count_letters, turns_by_letter
from laidsheets.piles import covered
from laidsheets.reasons import mask_of, reasons_by_sheet


def second_turns(case, cell):
    """Returns a dict from the second letters at a cell to the turns in which the sheet goes that tells them."""
    turns = turns_of(reasons_by_sheet(case))
    there = covered(case[0])[cell]
    cover = mask_of([s for s, letter in there])
    if len(there) == 1:
        # There is no second sheet to go: the one turn that each order has for the only sheet stands for ''.
        return turns_by_letter(turns, [(there[0][0], "")], [cover])
    return turns_by_letter(turns, there, [cover - (1 << s) for s, letter in there])


def second_counts(case, cell):
    """Returns a dict from each second letter at a cell, or '', to the number of the orders that have it."""
    return count_letters(second_turns(case, cell))


def order_second(case, cell, letter):
    """Returns an order that meets the case with this second letter at the cell, or None if there is none."""
    return order_with_turn(reasons_by_sheet(case), second_turns(case, cell).get(letter, []))
