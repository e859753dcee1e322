"""What the document says of top sets, books, standings and ways, word for word and by trying all."""

from itertools import combinations, permutations

from tests import plain
from tests.samples import some_cases


def met_cases(seed, many, most_sheets=5, side=3):
    """The (case, orders) of so many cases by chance, all orders that meet the case, where there are some."""
    for case in some_cases(seed, many, most_sheets, side):
        orders = plain.all_orders(case)
        if orders:
            yield case, orders


def all_sets(count):
    return [some for many in range(count + 1) for some in combinations(range(count), many)]


def top_sets(orders):
    return sorted({tuple(sorted(order[:many])) for order in orders for many in range(len(order) + 1)})


def fitting(orders, some):
    tops = top_sets(orders)
    return tuple(s for s in range(len(orders[0])) if s not in some and tuple(sorted(some + (s,))) in tops)


def paths(orders, s):
    tops = top_sets(orders)
    return [top for top in tops if s in top
            and not any(tuple(other for other in top if other != t) in tops for t in top if t != s)]


def follows(orders, saying):
    return not plain.breaches(orders, saying)


def fewer(saying):
    """The sayings with one other less, one for each of two or more others."""
    s, others = saying
    return [(s, tuple(other for other in others if other != o)) for o in others] if len(others) > 1 else []


def is_tight(orders, saying):
    return follows(orders, saying) and not any(follows(orders, less) for less in fewer(saying))


def tight_sayings(pile, orders, s):
    return sorted(saying for saying in plain.all_sayings(pile) if saying[0] == s and is_tight(orders, saying))


def book_holds(count, value):
    if type(value) is not tuple:
        return False
    pile = (1, 1, ((0, 0, ("a",)),) * count)
    known = [repr(saying) for saying in sorted(plain.all_sayings(pile))]
    told = [repr(saying) for saying in value]
    return told == [saying for saying in known if saying in told]


def meets(book, row):
    return all(any(plain.stands_ahead(row, other, s) for other in others) for s, others in book)


def rows_of(count, book):
    return [row for row in permutations(range(count)) if meets(book, row)]


def base_with_sets(orders):
    """The list of (saying, top set) of the sayings of the base with the top sets that they come from."""
    count = len(orders[0])
    found = []
    for some in top_sets(orders):
        others = fitting(orders, some)
        for s in range(count):
            if len(some) < count and s not in some and s not in others:
                if all(s in fitting(orders, tuple(sorted(some + (other,)))) for other in others):
                    found.append(((s, others), some))
    return sorted(found)


def base(orders):
    return tuple(sorted({saying for saying, some in base_with_sets(orders)}))


def origin(orders, saying):
    """The top set that a saying of the base comes from."""
    (some,) = [some for one, some in base_with_sets(orders) if one == saying]
    return some


def sources(case, orders, saying):
    """All sources of a saying of the base."""
    gone = origin(orders, saying)
    return plain.reasons(case, saying[0], [s for s in range(len(orders[0])) if s not in gone])


def book_ground_holds(book, saying, value):
    s, others = saying
    if type(value) is not dict or not all(plain.is_int(t) and plain.is_int(value[t]) for t in value):
        return False
    if s not in value or any(other in value for other in others):
        return False
    for t in value:
        if value[t] not in range(len(book)) or book[value[t]][0] != t:
            return False
        if not all(other in value or other in others for other in book[value[t]][1]):
            return False
    return True


def some_book_ground(count, book, saying):
    """Whether there is a ground of a saying in a book: all sets of sheets are tried."""
    s, others = saying
    rest = [t for t in range(count) if t not in others and t != s]
    for many in range(len(rest) + 1):
        for more in combinations(rest, many):
            within = more + (s,) + others
            if all(any(about == t and set(told) <= set(within) for about, told in book) for t in more + (s,)):
                return True
    return False


def standing_kind(orders, saying):
    if not follows(orders, saying):
        return "broken"
    if not is_tight(orders, saying):
        return "loose"
    return "book" if saying in base(orders) else "tight"


def standing_holds(case, orders, saying, value):
    s, others = saying
    known = [repr(order) for order in orders]
    if type(value) is not tuple or len(value) < 2 or type(value[0]) is not str:
        return False
    if value[0] == "broken":
        return len(value) == 2 and repr(value[1]) in known and plain.breaches([value[1]], saying) != []
    if len(value) != 3:
        return False
    kind, first, second = value
    if kind == "loose":
        if not plain.is_int(first) or first not in others or len(others) < 2:
            return False
        return plain.ground_holds(case, (s, tuple(o for o in others if o != first)), second)
    if kind != standing_kind(orders, saying) or type(second) is not tuple:
        return False
    if not all(repr(order) in known for order in second):
        return False
    if kind == "tight":
        if not book_ground_holds(base(orders), saying, first) or len(second) != len(fewer(saying)):
            return False
        return all(plain.breaches([order], less) for less, order in zip(fewer(saying), second))
    return kind == "book" and book_part_holds(case, orders, saying, first, second)


def book_part_holds(case, orders, saying, jam, rows):
    s, others = saying
    some = origin(orders, saying)
    left = [t for t in range(len(orders[0])) if t not in some]
    if type(jam) is not dict or not all(plain.is_int(t) for t in jam):
        return False
    if sorted(jam) != [t for t in left if t not in others]:
        return False
    if not all(repr(jam[t]) in [repr(reason) for reason in plain.reasons(case, t, left)] for t in jam):
        return False
    many = len(some)
    if len(rows) != len(others) or len({row[:many] for row in rows}) != 1 or tuple(sorted(rows[0][:many])) != some:
        return False
    return all(row[many:many + 2] == (o, s) for o, row in zip(others, rows))


def distance(row, other):
    return sum(plain.stands_ahead(row, s, t) != plain.stands_ahead(other, s, t) for s, t in combinations(sorted(row), 2))


def neighbours(row):
    """All rows that are made from a row by exchanging two neighbours."""
    found = []
    for at in range(len(row) - 1):
        items = list(row)
        items[at], items[at + 1] = items[at + 1], items[at]
        found.append(tuple(items))
    return found


def way_holds(orders, order, other, value):
    known = [repr(row) for row in orders]
    if type(value) is not list or not value or not all(repr(row) in known for row in value):
        return False
    if value[0] != order or value[-1] != other or len(value) != distance(order, other) + 1:
        return False
    return all(after in neighbours(row) for row, after in zip(value, value[1:]))
