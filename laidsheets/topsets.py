"""Top sets, paths and tight sayings: [19] of the document.

Some sheets are masks here, as in laidsheets.reasons. Where some order meets the case, all sheets that can go
one after the other are the first ones of such an order, too: so they are a top set.
"""

from laidsheets.counts import steps_of
from laidsheets.reasons import all_of, free_sheets, gone_set, mask_of, reasons_by_sheet, sheets_in


def top_sets(case):
    """Returns the ascending list of the top sets."""
    table = reasons_by_sheet(case)
    return sorted([gone_set(table, left) for left in steps_of(table)])


def fitting(case, some):
    """Returns the ascending tuple of the sheets that fit behind a top set."""
    table = reasons_by_sheet(case)
    return tuple(free_sheets(table, all_of(table) - mask_of(some)))


def path_masks(table, s):
    """Returns the list of the masks of the paths of a sheet."""
    own = 1 << s
    tops = {all_of(table) - left: True for left in steps_of(table)}
    found = []
    for top in tops:
        if top & own and not any([top - (1 << t) in tops for t in sheets_in(top - own)]):
            found.append(top)
    return found


def paths(case, s):
    """Returns the ascending list of the paths of a sheet."""
    return sorted([tuple(sheets_in(path)) for path in path_masks(reasons_by_sheet(case), s)])


def tight_sayings(case, s):
    """Returns the ascending list of the tight sayings about a sheet."""
    table = reasons_by_sheet(case)
    masks = path_masks(table, s)
    # By the mask of its others: a saying follows exactly if each path has one of them.
    follows = [all([some & path for path in masks]) for some in range(all_of(table) + 1)]
    tight = []
    for others, right in enumerate(follows):
        if right and not others & (1 << s):
            if not any([follows[others - (1 << t)] for t in sheets_in(others)]):
                tight.append((s, tuple(sheets_in(others))))
    return sorted(tight)
