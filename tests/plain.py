"""What the document says, word for word and by trying all: slow, and without the program."""

from itertools import combinations, permutations, product

from tests.samples import shown_at


def is_int(value):
    return type(value) is int


def pile_holds(value):
    if type(value) is not tuple or len(value) != 3:
        return False
    rows, columns, sheets = value
    if not (is_int(rows) and is_int(columns) and rows in range(1, 9) and columns in range(1, 9)):
        return False
    return type(sheets) is tuple and len(sheets) in range(1, 11) and all(sheet_holds(rows, columns, s) for s in sheets)


def sheet_holds(rows, columns, value):
    if type(value) is not tuple or len(value) != 3:
        return False
    row, column, picture = value
    if not (is_int(row) and is_int(column) and type(picture) is tuple and picture):
        return False
    signs = "abcdefghijklmnopqrstuvwxyz."
    for line in picture:
        if type(line) is not str or not line or len(line) != len(picture[0]) or any(sign not in signs for sign in line):
            return False
    if "".join(picture).strip(".") == "":
        return False
    cells = [(row + down, column + right) for down in range(len(picture)) for right in range(len(picture[0]))]
    return all(r in range(rows) and c in range(columns) for r, c in cells)


def covers(pile, s, cell):
    """The letter of a sheet at a cell, or None if the sheet does not cover it."""
    return shown_at((pile[0], pile[1], {s: pile[2][s]}), [s], cell)


def covered_cells(pile):
    board = [(row, column) for row in range(pile[0]) for column in range(pile[1])]
    sheets = range(len(pile[2]))
    here = {cell: [(s, covers(pile, s, cell)) for s in sheets if covers(pile, s, cell)] for cell in board}
    return {cell: here[cell] for cell in board if here[cell]}


def reading_holds(value):
    return type(value) is str and list(value) == [sign for sign in "abcdefghijklmnopqrstuvwxyz" if sign in value]


def view_holds(pile, value):
    if type(value) is not dict:
        return False
    cells = [repr(cell) for cell in covered_cells(pile)]
    return all(repr(cell) in cells and reading_holds(value[cell]) for cell in value)


def saying_holds(pile, value):
    sheets = range(len(pile[2]))
    for s in sheets:
        rest = [other for other in sheets if other != s]
        for many in range(1, len(rest) + 1):
            for others in combinations(rest, many):
                if repr(value) == repr((s, others)):
                    return True
    return False


def case_holds(value):
    if type(value) is not tuple or len(value) != 3 or not pile_holds(value[0]) or not view_holds(value[0], value[1]):
        return False
    sayings = value[2]
    return type(sayings) is tuple and len(sayings) < 7 and all(saying_holds(value[0], saying) for saying in sayings)


def meets(case, order):
    pile, view, sayings = case
    if any(shown_at(pile, order, cell) not in list(view[cell]) for cell in view):
        return False
    return all(any(order.index(other) < order.index(s) for other in others) for s, others in sayings)


def all_orders(case):
    return [order for order in permutations(range(len(case[0][2]))) if meets(case, order)]


def can_be_next(case, gone, s):
    """Whether a sheet meets the case as the topmost one of those that are left when some are gone."""
    pile, view, sayings = case
    for cell in view:
        letter = covers(pile, s, cell)
        if letter is not None and letter not in list(view[cell]):
            if not any(covers(pile, other, cell) for other in gone):
                return False
    return all(any(other in gone for other in others) for about, others in sayings if about == s)


def all_taken(case):
    found = set()
    for row in permutations(range(len(case[0][2]))):
        for at, s in enumerate(row):
            if not can_be_next(case, row[:at], s):
                break
            found.add(s)
    return tuple(sorted(found))


def reasons(case, s, among):
    """All reasons of a sheet within some sheets."""
    pile, view, sayings = case
    found = []
    for cell in view:
        letter = covers(pile, s, cell)
        if letter is not None and letter not in list(view[cell]):
            if all(other in among for other in range(len(pile[2])) if covers(pile, other, cell)):
                found.append(("cell", cell))
    for i, (about, others) in enumerate(sayings):
        if about == s and set(others) <= set(among):
            found.append(("saying", i))
    return found


def jam_holds(case, value):
    if type(value) is not dict or not value:
        return False
    sheets = range(len(case[0][2]))
    if not all(is_int(s) and s in sheets for s in value):
        return False
    return all(repr(value[s]) in [repr(reason) for reason in reasons(case, s, list(value))] for s in value)


def some_jam(case):
    """Whether some sheets have a reason each within themselves."""
    return any(all(reasons(case, s, among) for s in among) for among in some_sheets(case, 10))


def some_sheets(case, most):
    """All tuples of one to so many different sheets of a case, ascending."""
    sheets = range(len(case[0][2]))
    return [among for many in range(1, min(most, len(sheets)) + 1) for among in combinations(sheets, many)]


def held_holds(case, s, t, value):
    if type(value) is not dict or not all(is_int(key) and key in range(len(case[0][2])) for key in value):
        return False
    if t not in value or s in value:
        return False
    within = list(value) + [s]
    return all(repr(value[key]) in [repr(reason) for reason in reasons(case, key, within)] for key in value)


def some_held(case, s, t):
    """Whether some sheets without s, t among them, have a reason each within themselves and s."""
    return any(t in among and s not in among and all(reasons(case, key, among + (s,)) for key in among)
               for among in some_sheets(case, 10))


def stands_ahead(order, s, t):
    return order.index(s) < order.index(t)


def letters_down(pile, order, cell):
    """The letters of the sheets that cover a cell, from the topmost sheet down."""
    letters = [covers(pile, s, cell) for s in order]
    return [letter for letter in letters if letter is not None]


def tallied(values):
    """A dict from each of some values to how often it is there."""
    values = list(values)
    return {value: values.count(value) for value in values}


def first_counts(case, orders, cell):
    return tallied(letters_down(case[0], order, cell)[0] for order in orders)


def second_counts(case, orders, cell):
    return tallied((letters_down(case[0], order, cell) + [""])[1] for order in orders)


def best_cell(case, orders):
    best = None
    for cell in sorted(covered_cells(case[0])):
        numbers = list(first_counts(case, orders, cell).values())
        if len(numbers) > 1 and (best is None or max(numbers) < best[0]):
            best = (max(numbers), cell)
    return best and best[1]


def part_holds(case, value):
    pile, view, sayings = case
    if type(value) is not tuple or not all(is_int(s) and s in range(len(pile[2])) for s in value):
        return False
    if any(value.count(s) > 1 for s in value):
        return False
    for cell in view:
        letter = shown_at(pile, value, cell)
        if letter is None or letter not in list(view[cell]):
            return False
    return all(any(other in value[:value.index(s)] for other in others) for s, others in sayings if s in value)


def all_parts(case):
    """All part orders of a case: all rows of no, some or all sheets are tried."""
    sheets = range(len(case[0][2]))
    return [row for many in range(len(sheets) + 1) for row in permutations(sheets, many) if part_holds(case, row)]


def part_jam_holds(case, value):
    if type(value) is not tuple or len(value) != 2:
        return False
    cell, jam = value
    if repr(cell) not in [repr(key) for key in case[1]] or not jam_holds(case, jam):
        return False
    return all(s in jam for s in range(len(case[0][2])) if covers(case[0], s, cell))


def misread_cells(case, order):
    pile, view, sayings = case
    return [cell for cell in view if shown_at(pile, order, cell) not in list(view[cell])]


def let_by(case):
    """All orders in which all sayings hold."""
    return all_orders((case[0], {}, case[2]))


def set_holds(case, value):
    return repr(value) in [repr(some) for some in [()] + some_sheets(case, 10)]


def steps(case, some):
    """The (s, cost) of all steps from a set."""
    pile, view, sayings = case
    found = []
    for s in range(len(pile[2])):
        if s not in some and all(any(other in some for other in others) for about, others in sayings if about == s):
            own = [cell for cell in view if covers(pile, s, cell) and covers(pile, s, cell) not in list(view[cell])]
            found.append((s, len([cell for cell in own if not any(covers(pile, other, cell) for other in some)])))
    return found


def shows(case, value, number):
    if type(value) is not dict or not all(set_holds(case, some) for some in value):
        return False
    if not all(is_int(value[some]) and value[some] >= 0 for some in value) or value.get((), 1) != 0:
        return False
    for some in value:
        for s, cost in steps(case, some):
            behind = tuple(sorted(some + (s,)))
            if behind not in value or value[behind] > value[some] + cost:
                return False
    everything = tuple(range(len(case[0][2])))
    return everything not in value or value[everything] >= number


def glass_meets(glass, order):
    case, under = glass
    return meets(case, order) and all(shown_at(case[0], order[::-1], cell) in list(under[cell]) for cell in under)


def all_glass_orders(glass):
    return [order for order in all_orders(glass[0]) if glass_meets(glass, order)]


def glass_steps(glass, some):
    case, under = glass
    pile = case[0]
    found = []
    for s, cost in steps(case, some):
        below = [other for other in range(len(pile[2])) if other not in some and other != s]
        own = [cell for cell in under if covers(pile, s, cell)]
        lowest = [cell for cell in own if not any(covers(pile, other, cell) for other in below)]
        if cost == 0 and all(covers(pile, s, cell) in list(under[cell]) for cell in lowest):
            found.append(s)
    return found


def glass_table_holds(glass, value):
    case = glass[0]
    if type(value) is not list or not all(set_holds(case, some) for some in value):
        return False
    if any(value.count(some) > 1 for some in value) or () not in value or tuple(range(len(case[0][2]))) in value:
        return False
    return all(tuple(sorted(some + (s,))) in value for some in value for s in glass_steps(glass, some))


def all_only(case, other):
    """All orders that meet the first case and not the other one."""
    return [order for order in all_orders(case) if not meets(other, order)]


def with_alone(case, cells, numbers):
    """The case with these readings and sayings alone."""
    pile, view, sayings = case
    return pile, {cell: view[cell] for cell in cells}, tuple(sayings[i] for i in numbers)


def core_holds(case, value):
    if type(value) is not tuple or len(value) != 2 or any(type(part) is not tuple for part in value):
        return False
    cells, numbers = value
    known = sorted(case[1])
    if repr(cells) != repr(tuple(cell for cell in known if repr(cell) in [repr(one) for one in cells])):
        return False
    if repr(numbers) != repr(tuple(i for i in range(len(case[2])) if repr(i) in [repr(one) for one in numbers])):
        return False
    if all_orders(with_alone(case, cells, numbers)):
        return False
    fewer = [with_alone(case, [other for other in cells if other != cell], numbers) for cell in cells]
    fewer += [with_alone(case, cells, [other for other in numbers if other != i]) for i in numbers]
    return all(all_orders(less) for less in fewer)


def is_pair(value):
    return type(value) is tuple and len(value) == 2 and is_int(value[0]) and is_int(value[1])


def loose_holds(value):
    if type(value) is not tuple or len(value) != 3:
        return False
    rows, columns, loose = value
    if type(loose) is not tuple or len(loose) not in range(1, 11):
        return False
    many = 1
    for item in loose:
        if type(item) is not tuple or len(item) != 2 or type(item[0]) is not tuple or len(item[0]) not in range(1, 5):
            return False
        if not all(is_pair(spot) and pile_holds((rows, columns, ((spot[0], spot[1], item[1]),))) for spot in item[0]):
            return False
        if list(item[0]) != sorted(set(item[0])):
            return False
        many *= len(item[0])
    return many <= 48


def loose_case_holds(value):
    if type(value) is not tuple or len(value) != 3 or not loose_holds(value[0]) or type(value[1]) is not dict:
        return False
    (rows, columns, loose), view, sayings = value
    board = [repr((row, column)) for row in range(rows) for column in range(columns)]
    if not all(repr(cell) in board and reading_holds(view[cell]) for cell in view):
        return False
    return type(sayings) is tuple and len(sayings) < 7 and all(saying_holds((rows, columns, loose), one) for one in sayings)


def placings(loose_case):
    return list(product(*[spots for spots, picture in loose_case[0][2]]))


def pile_at(loose_case, placing):
    rows, columns, loose = loose_case[0]
    return rows, columns, tuple((spot[0], spot[1], item[1]) for spot, item in zip(placing, loose))


def bare_cells(loose_case, placing):
    here = covered_cells(pile_at(loose_case, placing))
    return [cell for cell in loose_case[1] if cell not in here]


def right_ones(loose_case):
    """A dict from each right placing to all orders that meet the case there."""
    found = {}
    for placing in placings(loose_case):
        if not bare_cells(loose_case, placing):
            orders = all_orders((pile_at(loose_case, placing), loose_case[1], loose_case[2]))
            if orders:
                found[placing] = orders
    return found


def bars_hold(loose_case, value):
    if type(value) is not dict or sorted(map(repr, value)) != sorted(map(repr, placings(loose_case))):
        return False
    for placing in value:
        bar = value[placing]
        if type(bar) is not tuple or len(bar) != 2:
            return False
        bare = bare_cells(loose_case, placing)
        if bar[0] == "bare":
            if repr(bar[1]) not in [repr(cell) for cell in bare]:
                return False
        elif bar[0] != "jam" or bare:
            return False
        elif not jam_holds((pile_at(loose_case, placing), loose_case[1], loose_case[2]), bar[1]):
            return False
    return True


def behind(case, event):
    """The case behind an event, or None if it cannot be made in the case."""
    pile, view, sayings = case
    if type(event) is not tuple or not event or type(event[0]) is not str:
        return None
    if event[0] == "read" and len(event) == 3:
        _, cell, reading = event
        if repr(cell) not in [repr(key) for key in covered_cells(pile)] or not reading_holds(reading):
            return None
        both = "".join(sorted(set(reading) & set(view[cell]))) if cell in view else reading
        return pile, {**view, cell: both}, sayings
    if event[0] == "say" and len(event) == 2 and saying_holds(pile, event[1]) and len(sayings) < 6:
        return pile, view, sayings + (event[1],)
    if event[0] == "drop" and len(event) == 2 and repr(event[1]) in [repr(i) for i in range(len(sayings))]:
        return pile, view, tuple(sayings[i] for i in range(len(sayings)) if i != event[1])
    return None


def log_holds(pile, value):
    if type(value) is not list:
        return False
    case = (pile, {}, ())
    for entry in value:
        if type(entry) is not tuple or len(entry) != 2:
            return False
        case = behind(case, entry[0])
        if case is None or repr(entry[1]) not in [repr(order) for order in all_orders(case)]:
            return False
    return True


def breaches(orders, saying):
    """Those of some orders in which the saying's sheet stands ahead of all its others."""
    s, others = saying
    return [order for order in orders if all(stands_ahead(order, s, other) for other in others)]


def ground_holds(case, saying, value):
    s, others = saying
    if type(value) is not dict or not all(is_int(key) and key in range(len(case[0][2])) for key in value):
        return False
    if s not in value or any(other in value for other in others):
        return False
    within = list(value) + list(others)
    return all(repr(value[key]) in [repr(reason) for reason in reasons(case, key, within)] for key in value)


def all_sayings(pile):
    sheets = range(len(pile[2]))
    return [(s, others) for s in sheets for many in range(1, len(sheets))
            for others in combinations([other for other in sheets if other != s], many)]
