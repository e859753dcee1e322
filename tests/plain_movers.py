"""What the document says of nearest orders, distances, deciding cells and movers, word for word and by trying all."""

from tests import plain, plain_books
from tests.plain_books import distance
from tests.samples import shown_at


def nearest(orders, row):
    number, order = min((distance(order, row), order) for order in orders)
    return order, number


def farthest(orders, row):
    number = max(distance(order, row) for order in orders)
    return min(order for order in orders if distance(order, row) == number), number


def near_steps(case, row, some):
    """The (s, cost) of all near steps from a set."""
    left = [s for s in range(len(row)) if s not in some]
    return [(s, sum(plain.stands_ahead(row, t, s) for t in left if t != s)) for s in left if not plain.reasons(case, s, left)]


def shows_near(case, row, value, number):
    if type(value) is not dict or not all(plain.set_holds(case, some) for some in value):
        return False
    if not all(plain.is_int(value[some]) and value[some] >= 0 for some in value) or value.get((), 1) != 0:
        return False
    for some in value:
        for s, cost in near_steps(case, row, some):
            behind = tuple(sorted(some + (s,)))
            if behind not in value or value[behind] > value[some] + cost:
                return False
    everything = tuple(range(len(row)))
    return everything in value and value[everything] >= number


def distances(orders, row):
    count = len(row)
    found = [distance(order, row) for order in orders]
    return [found.count(number) for number in range(count * (count - 1) // 2 + 1)]


def pair_counts(orders):
    sheets = range(len(orders[0]))
    return {(s, t): sum(plain.stands_ahead(order, s, t) for order in orders) for s in sheets for t in sheets if s != t}


def showings(case, orders, asked):
    """For each order the letters that it shows at the asked cells, as a dict."""
    return [{cell: shown_at(case[0], order, cell) for cell in asked} for order in orders]


def with_told(shown, told):
    return [one for one in shown if all(one[cell] == letter for cell, letter in told)]


def is_decided(shown, told):
    left = with_told(shown, told)
    return all(one == left[0] for one in left)


def answers(shown, told, cell):
    """All that can be told when a cell is read."""
    return sorted({tuple(sorted(told + ((cell, one[cell]),))) for one in with_told(shown, told)})


def unread(asked, told):
    return [cell for cell in asked if cell not in [at for at, letter in told]]


def fewest(shown, asked, told=()):
    if is_decided(shown, told):
        return 0
    return 1 + min(max(fewest(shown, asked, new) for new in answers(shown, told, cell)) for cell in unread(asked, told))


def plan_holds(shown, asked, m, value):
    if type(value) is not dict:
        return False
    # By what they look like, so that a truth is not taken for a number.
    given = {repr(told): repr(value[told]) for told in value}
    reached, keys = [()], []
    while reached:
        told = reached.pop()
        if not is_decided(shown, told):
            if len(told) >= m or repr(told) not in given:
                return False
            cells = [cell for cell in unread(asked, told) if repr(cell) == given[repr(told)]]
            if not cells:
                return False
            keys.append(repr(told))
            reached += answers(shown, told, cells[0])
    return sorted(keys) == sorted(given)


def hold_holds(shown, asked, m, value):
    if type(value) is not dict:
        return False
    given = {repr(key): repr(value[key]) for key in value}
    reached, keys = [()], []
    while reached:
        told = reached.pop()
        if is_decided(shown, told):
            return False
        for cell in unread(asked, told) if len(told) < m else []:
            key = repr((told, cell))
            new = [one for one in answers(shown, told, cell) if repr(dict(one)[cell]) == given.get(key)]
            if not new:
                return False
            keys.append(key)
            reached += new
    return sorted(set(keys)) == sorted(given)


def trim(case):
    """The case behind a trim, and the list of (saying, case without it) of those that go."""
    pile, view, sayings = case
    gone, i = [], 0
    while i < len(sayings):
        rest = pile, view, sayings[:i] + sayings[i + 1:]
        if plain_books.follows(plain.all_orders(rest), sayings[i]):
            gone.append((sayings[i], rest))
            sayings = rest[2]
        else:
            i += 1
    return (pile, view, sayings), gone


def trim_holds(case, value):
    behind, gone = trim(case)
    if type(value) is not tuple or len(value) != len(gone):
        return False
    for (saying, rest), pair in zip(gone, value):
        if type(pair) is not tuple or len(pair) != 2 or repr(pair[0]) != repr(saying):
            return False
        if not plain.ground_holds(rest, saying, pair[1]):
            return False
    return True


def event_behind(case, order, event):
    """The (case, order, distance) behind an event, or None if it cannot be made or no order is left."""
    behind = plain.behind(case, event)
    orders = plain.all_orders(behind) if behind is not None else []
    return (behind,) + nearest(orders, order) if orders else None


def entry_behind(case, order, entry):
    """The (case, order) behind any value as an entry, or None if it is not right there."""
    if type(entry) is not tuple or len(entry) not in (2, 3):
        return None
    if len(entry) == 2:
        if type(entry[0]) is not str or entry[0] != "trim" or not trim_holds(case, entry[1]):
            return None
        return trim(case)[0], order
    event, move, values = entry
    made = event_behind(case, order, event)
    if made is None:
        return None
    behind, new, number = made
    if not plain_books.way_holds(plain.all_orders(case), order, new, move) or not shows_near(behind, order, values, number):
        return None
    return behind, new


def first_fault(pile, value):
    last = (pile, {}, ()), tuple(range(len(pile[2])))
    for number, entry in enumerate(value):
        last = entry_behind(last[0], last[1], entry)
        if last is None:
            return number
    return None


def all_asked(rng, pile):
    """Some tuples of one to five covered cells, for each number that there are so many cells for."""
    cells = sorted(plain.covered_cells(pile))
    return [tuple(sorted(rng.sample(cells, many))) for many in range(1, min(5, len(cells)) + 1)]
