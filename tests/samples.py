"""Values for the tests: those of the document's examples, cases by chance, and wrong values."""

import random

PILE = (1, 3, ((0, 0, ("aa",)), (0, 1, ("bb",)), (0, 0, ("c.c",))))
CASE = (PILE, {(0, 0): "a", (0, 1): "b"}, ())
JAMMED = (PILE, {(0, 0): "a", (0, 1): "b", (0, 2): "c"}, ())
FREE = (PILE, {}, ())
FIRST = (PILE, {(0, 0): "a"}, ())
EITHER = (PILE, {}, ((0, (1, 2)), (1, (0, 2))))

ONE = (1, 1, ((0, 0, ("a",)),))
TEN = (2, 8, tuple((s % 2, s % 7, ("ab" if s % 3 else "b.",)) for s in range(10)))
BOARD = (8, 8, ((0, 0, ("a" * 8,) * 8), (7, 7, ("z",)), (0, 7, ("m",)), (3, 3, (".b.", "b.b", ".b."))))

LOOSE = (1, 3, ((((0, 0), (0, 1)), ("aa",)), (((0, 1),), ("bb",))))
ASKED = (LOOSE, {(0, 0): "a", (0, 1): "b"}, ())
BARRED = (LOOSE, {(0, 0): "b"}, ())


def deep(levels):
    """A value that is nested so deep, of tuples, lists and dicts by turns."""
    value = 0
    for level in range(levels):
        value = [(value,), [value], {"k": value}][level % 3]
    return value


def deep_tuple(levels):
    value = ()
    for _ in range(levels):
        value = (value,)
    return value


WRONG = [
    None, True, False, 0, 1, -1, 10 ** 30 - 1, -(10 ** 30) + 1, "", "a", "cell", "saying", "A", "x" * 200,
    (), (0,), (1, 2), (0, 1, 2), (0, (1,)), ((),), ("a",), ("", ""), (None, None), (None, None, None),
    ("cell", "cell", "cell"), (1, 1, 1), ([], [], []), ({}, {}, {}), ((), (), ()),
    [], [0], [0, 1, 2], [1, 0, 2], [()], ["a"], [[]],
    {}, {0: 0}, {"a": "a"}, {None: None}, {(): ""}, {(0,): "a"}, {(0, 0, 0): "a"}, {True: "a"}, {"": ()},
    deep(12), deep_tuple(12), (deep(11), deep(11)), (deep(11), deep(11), deep(11)), {deep_tuple(8): deep(8)},
    tuple(range(40000)), list(range(40000)), {n: "a" for n in range(40000)}, {(n, n): "a" for n in range(10000)},
]


def some_picture(rng, rows, columns, letters):
    """A picture of at most so many rows and columns; it has a letter."""
    high, wide = rng.randint(1, rows), rng.randint(1, columns)
    signs = [[rng.choice(letters + "." * (len(letters) // 2)) for _ in range(wide)] for _ in range(high)]
    signs[rng.randrange(high)][rng.randrange(wide)] = rng.choice(letters)
    return tuple("".join(line) for line in signs)


def some_pile(rng, most_sheets, letters="abc", side=3):
    rows, columns = rng.randint(1, side), rng.randint(1, side)
    sheets = []
    for _ in range(rng.randint(1, most_sheets)):
        picture = some_picture(rng, rows, columns, letters)
        row = rng.randint(0, rows - len(picture))
        column = rng.randint(0, columns - len(picture[0]))
        sheets.append((row, column, picture))
    return rows, columns, tuple(sheets)


def some_reading(rng, letters="abc"):
    return "".join(letter for letter in letters if rng.random() < 0.5)


def shown_at(pile, order, cell):
    """The letter that is seen at a covered cell, looked up from the topmost sheet down."""
    for s in order:
        row, column, picture = pile[2][s]
        down, right = cell[0] - row, cell[1] - column
        if 0 <= down < len(picture) and 0 <= right < len(picture[0]) and picture[down][right] != ".":
            return picture[down][right]
    return None


def some_view(rng, pile, order):
    """A view by chance; with an order its readings fit it, else perhaps none does."""
    view = {}
    for row in range(pile[0]):
        for column in range(pile[1]):
            letter = shown_at(pile, range(len(pile[2])) if order is None else order, (row, column))
            if letter is not None and rng.random() < 0.7:
                more = some_reading(rng)
                keep = "" if order is None else letter
                view[(row, column)] = "".join(sorted(set(more + keep)))
    keys = list(view)
    rng.shuffle(keys)
    return {key: view[key] for key in keys}


def some_sayings(rng, pile, order, least=0):
    """At most six sayings by chance; with an order they all hold in it."""
    sheets = list(range(len(pile[2])))
    sayings = []
    if len(sheets) == 1:
        return ()
    for _ in range(rng.randint(least, 6)):
        s = rng.choice(sheets) if order is None else rng.choice(order[1:])
        rest = [other for other in sheets if other != s]
        others = set(rng.sample(rest, rng.randint(1, min(3, len(rest)))))
        if order is not None:
            others.add(rng.choice(order[:order.index(s)]))
        sayings.append((s, tuple(sorted(others))))
    return tuple(sayings)


def some_cases(seed, many, most_sheets=5, side=3):
    """So many cases: by turns with readings, with sayings, with both, built round an order or not."""
    rng = random.Random(seed)
    cases = []
    for number in range(many):
        pile = some_pile(rng, most_sheets, "abc", side)
        order = None
        if number % 2:
            order = list(range(len(pile[2])))
            rng.shuffle(order)
        kind = number // 2 % 3
        view = {} if kind == 1 else some_view(rng, pile, order)
        sayings = () if kind == 0 else some_sayings(rng, pile, order, 1)
        cases.append((pile, view, sayings))
    return cases


def some_under(rng, case, orders):
    """A view from below for a case: built round one of some orders, if there are any, or not."""
    order = rng.choice(orders)[::-1] if orders and rng.random() < 0.6 else None
    view = some_view(rng, case[0], order)
    return {cell: view[cell] for cell in view if rng.random() < 0.7}


def some_other(rng, case, orders):
    """A case with the same pile: one that asks less, or more, or something else."""
    pile, view, sayings = case
    kind = rng.randrange(4)
    order = rng.choice(orders) if orders else None
    if kind == 0:
        less = {cell: "".join(sorted(set(view[cell] + some_reading(rng)))) for cell in view if rng.random() < 0.8}
        return pile, less, tuple((s, tuple(sorted(set(others + (other,)) - {s})))
                                 for s, others in sayings for other in [rng.randrange(len(pile[2]))])
    if kind == 1:
        return pile, {**view, **some_view(rng, pile, order)}, sayings[:4]
    return pile, some_view(rng, pile, order if kind == 2 else None), some_sayings(rng, pile, order)[:2]


def some_loose(rng, most_sheets, side=3, letters="abc"):
    """A loose pile; as many sheets as there can be have several spots."""
    rows, columns = rng.randint(1, side), rng.randint(1, side)
    loose = []
    left = 48
    for _ in range(rng.randint(1, most_sheets)):
        picture = some_picture(rng, max(1, rows - 1), max(1, columns - 1), letters)
        spots = [(row, column) for row in range(rows - len(picture) + 1) for column in range(columns - len(picture[0]) + 1)]
        many = rng.randint(1, min(4, left, len(spots)))
        left //= many
        loose.append((tuple(sorted(rng.sample(spots, many))), picture))
    rng.shuffle(loose)
    return rows, columns, tuple(loose)


def some_loose_cases(seed, many, most_sheets=4, side=3):
    """So many loose cases: by turns with readings, with sayings, with both, built round an order at a placing or not."""
    rng = random.Random(seed)
    for number in range(many):
        loose_pile = some_loose(rng, most_sheets, side)
        rows, columns, loose = loose_pile
        pile = (rows, columns, tuple(rng.choice(spots) + (picture,) for spots, picture in loose))
        order = None
        if number % 4:
            order = list(range(len(loose)))
            rng.shuffle(order)
        kind = number % 3
        view = {} if kind == 1 else some_view(rng, pile, order)
        if kind != 1 and rng.random() < 0.2:
            view[(rng.randrange(rows), rng.randrange(columns))] = some_reading(rng)
        sayings = () if kind == 0 else some_sayings(rng, pile, order, 1)
        yield loose_pile, view, sayings


def some_event(rng, case, order=None):
    """An event by chance, mostly one that can be made; with an order mostly one that holds in it."""
    pile, view, sayings = case
    kind = rng.randrange(8)
    if kind < 5 or len(pile[2]) == 1:
        views = some_view(rng, pile, order if rng.random() < 0.9 else None)
        if views:
            cell = rng.choice(sorted(views))
            return "read", cell, views[cell]
    if kind < 7:
        found = some_sayings(rng, pile, order if rng.random() < 0.8 else None)
        if found:
            return "say", found[0]
    return "drop", rng.randrange(-1, len(sayings) + 1)


def stacked(letters):
    """A pile of one cell, with a sheet for each letter."""
    return (1, 1, tuple((0, 0, (letter,)) for letter in letters))


SCRAPS = [None, True, False, 0, 1, 2, 7, 8, 9, -1, "", "a", "b", "z", ".", "A", "ba", "aa", "cell", "saying",
          (), (0,), (1,), (0, 0), (0, 1), (1, 0), [], {}, [0, 1], {0: 0}]


def changed_once(rng, value):
    """The value, changed in one place: an item other, gone, twice, moved, or of another kind."""
    if isinstance(value, (tuple, list)) and value and rng.random() < 0.85:
        items = list(value)
        at = rng.randrange(len(items))
        if rng.random() < 0.65:
            items[at] = changed_once(rng, items[at])
        else:
            change_items(rng, items, at)
        return type(value)(items)
    if isinstance(value, dict) and value and rng.random() < 0.85:
        return changed_dict(rng, value)
    return changed_leaf(rng, value)


def change_items(rng, items, at):
    act = rng.randrange(4)
    if act == 0:
        del items[at]
    elif act == 1:
        items.insert(at, items[at])
    elif act == 2:
        items.insert(at, rng.choice(SCRAPS))
    else:
        other = rng.randrange(len(items))
        items[at], items[other] = items[other], items[at]


def changed_dict(rng, value):
    key = rng.choice(list(value))
    act = rng.randrange(4)
    if act == 0:
        return {k: changed_once(rng, value[k]) if k == key else value[k] for k in value}
    if act == 1:
        return {k: value[k] for k in value if k != key}
    new = changed_once(rng, key)
    try:
        hash(new)
    except TypeError:
        new = None
    if act == 2:
        return {(new if k == key else k): value[k] for k in value}
    return {**value, new: value[key]}


def changed_leaf(rng, value):
    if isinstance(value, int) and rng.random() < 0.8:
        return rng.choice([value + 1, value - 1, bool(value), str(value), (value,), -value])
    if isinstance(value, str) and value and rng.random() < 0.8:
        at = rng.randrange(len(value))
        sign = rng.choice(".abcxyzAZ{` 0")
        return rng.choice([value + value[at], value[:at] + value[at + 1:], value[:at] + sign + value[at + 1:],
                           value.upper(), value[::-1], list(value), tuple(value), value.encode()])
    if isinstance(value, tuple) and rng.random() < 0.6:
        return list(value)
    return rng.choice(SCRAPS)
