"""How many of some cells must be read until all of them are decided: [27] of the document.

What can be told is written as in [27], as an ascending tuple of (cell, letter). A showing is such a tuple with
all asked cells. What is told is decided exactly if there is one showing with it.
"""

from laidsheets.counts import steps_of
from laidsheets.piles import covered, is_cell, is_tuple
from laidsheets.reasons import holds, mask_of, reasons_by_sheet


def letters_there(sheets):
    """Returns the mask of the sheets of a list of (sheet, letter) at a cell, and a dict from them to the letters."""
    letters = {s: letter for s, letter in sheets}
    return (mask_of(letters), letters)


def letters_shown(there, left, s):
    """Returns for each of some cells the letter that is seen there as s goes, '' if s does not show one.

    there has for each cell what letters_there tells, and the sheets of the mask left are left with s.
    """
    return tuple([letters[s] if s in letters and holds(cover, left) else "" for cover, letters in there])


def showings(case, asked):
    """Returns the list of all showings."""
    steps = steps_of(reasons_by_sheet(case))
    cells = covered(case[0])
    there = [letters_there(cells[cell]) for cell in asked]
    # By what is left: all that can be shown from then on, a letter for each cell or ''.
    ends = {}
    for left in sorted(steps):
        found = {}
        if left == 0:
            found[tuple(["" for cell in asked])] = True
        for s in steps[left]:
            shown = letters_shown(there, left, s)
            for end in ends[left - (1 << s)]:
                found[tuple([here + later for here, later in zip(shown, end)])] = True
        ends[left] = found
    return [tuple(list(zip(asked, letters))) for letters in ends[max(ends)]]


def told_counts(case, asked):
    """Returns a dict from all that can be told to the number of showings with it."""
    counts = {}
    for showing in showings(case, asked):
        parts = [()]
        for pair in showing:
            parts = parts + [part + (pair,) for part in parts]
        for told in parts:
            counts[told] = counts.get(told, 0) + 1
    return counts


def unread(asked, told):
    """Returns the list of the asked cells that are not told."""
    read = [cell for cell, letter in told]
    return [cell for cell in asked if cell not in read]


def told_more(told, cell, letter):
    """Returns what is told when a further cell is."""
    return tuple(sorted(told + ((cell, letter),)))


def answers_by_cell(counts):
    """Returns a dict from each asked cell to the ascending list of the letters that can be told there at first."""
    letters = {}
    for told in sorted(counts):
        if len(told) == 1:
            cell, letter = told[0]
            letters.setdefault(cell, []).append(letter)
    return letters


def needs_of(asked, counts):
    """Returns two dicts with the least number of readings until all is decided, whatever is told.

    One has it for what is told, the other one for (told, cell), if this cell is the next one, without its reading.
    """
    needs = {}
    behind = {}
    for told in sorted(counts, key=lambda some: -len(some)):
        needs[told] = 0
        if counts[told] > 1:
            needs[told] = 1 + min([behind[(told, cell)] for cell in unread(asked, told)])
        for at, (cell, _) in enumerate(told):
            ahead = (told[:at] + told[at + 1:], cell)
            behind[ahead] = max(behind.get(ahead, 0), needs[told])
    return (needs, behind)


def fewest_readings(case, asked):
    """Returns the least number of readings for which there is a plan."""
    needs, _ = needs_of(asked, told_counts(case, asked))
    return needs[()]


def told_next(counts, letters, told, cell):
    """Returns the list of all that can be told when a further cell is read and is not decided then."""
    more = [told_more(told, cell, letter) for letter in letters[cell]]
    return [new for new in more if counts.get(new, 0) > 1]


def find_plan(case, asked):
    """Returns a plan for the least number of readings."""
    counts = told_counts(case, asked)
    letters = answers_by_cell(counts)
    needs, behind = needs_of(asked, counts)
    plan = {}
    reached = [()]
    while reached != []:
        told = reached.pop()
        if needs[told] > 0:
            cell = min([at for at in unread(asked, told) if behind[(told, at)] < needs[told]])
            plan[told] = cell
            reached.extend(told_next(counts, letters, told, cell))
    return plan


def find_hold(case, asked, m):
    """Returns a hold against m readings, or None if there is a plan for m."""
    counts = told_counts(case, asked)
    letters = answers_by_cell(counts)
    needs, behind = needs_of(asked, counts)
    if needs[()] <= m:
        return None
    hold = {}
    reached = {(): True}
    # Whatever is told needs more readings than are left of the m: so it goes on until none are.
    for _ in range(m):
        further = {}
        for told in reached:
            for cell in unread(asked, told):
                more = [(told_more(told, cell, letter), letter) for letter in letters[cell]]
                new, letter = min([answer for answer in more if needs.get(answer[0], -1) == behind[(told, cell)]])
                hold[(told, cell)] = letter
                further[new] = True
        reached = further
    return hold


def is_told(value):
    """Returns whether any value is a tuple of tuples of two integers and a string, as what is told is."""
    if not isinstance(value, tuple):
        return False
    return all([is_tuple(pair, 2) and is_cell(pair[0]) and isinstance(pair[1], str) for pair in value])


def is_plan(case, asked, m, value):
    """Returns whether any value is a plan for m readings."""
    if not isinstance(value, dict) or not all([is_told(told) and is_cell(value[told]) for told in value]):
        return False
    counts = told_counts(case, asked)
    letters = answers_by_cell(counts)
    reached = []
    if counts[()] > 1:
        reached.append(())
    many = 0
    while reached != []:
        further = []
        for told in reached:
            if len(told) >= m or told not in value or value[told] not in unread(asked, told):
                return False
            further.extend(told_next(counts, letters, told, value[told]))
        many += len(reached)
        reached = further
    return many == len(value)


def is_question(value):
    """Returns whether any value is a tuple of what is told and of a cell, as the keys of a hold are."""
    return is_tuple(value, 2) and is_told(value[0]) and is_cell(value[1])


def is_hold(case, asked, m, value):
    """Returns whether any value is a hold against m readings."""
    if not isinstance(value, dict):
        return False
    if not all([is_question(key) and isinstance(value[key], str) for key in value]):
        return False
    counts = told_counts(case, asked)
    if counts[()] == 1:
        return False
    many = 0
    size = 0
    reached = {(): True}
    while size < m:
        further = {}
        for told in reached:
            for cell in unread(asked, told):
                # What cannot be told counts here as what is decided.
                new = told_more(told, cell, value.get((told, cell), ""))
                if counts.get(new, 1) == 1:
                    return False
                further[new] = True
                many += 1
        reached = further
        size += 1
    return many == len(value)
