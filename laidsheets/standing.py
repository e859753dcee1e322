"""The four places where a saying can stand: [23] of the document."""

from laidsheets.books import base_of_table, find_book_ground, is_book_ground, row_ahead
from laidsheets.following import ground_by, is_ground_by
from laidsheets.orders import is_order_of
from laidsheets.piles import is_integer, is_tuple
from laidsheets.reasons import all_of, are_reasons, finish_order, mask_of, order_ahead, reasons_by_sheet, stuck_reasons


def others_without(saying, o):
    """Returns the others of a saying but for one."""
    return tuple([other for other in saying[1] if other != o])


def find_standing(case, saying):
    """Returns a standing of a saying."""
    table = reasons_by_sheet(case)
    s, others = saying
    order = order_ahead(table, s, mask_of(others))
    if order is not None:
        return ("broken", order)
    spare = find_spare(table, saying)
    if spare is not None:
        return ("loose", spare[0], spare[1])
    base = base_of_table(table)
    if saying in base:
        return book_standing(table, saying)
    return ("tight", find_book_ground(base, saying), tight_orders(table, saying))


def find_spare(table, saying):
    """Returns (o, ground): an other without which the saying follows, and its ground then; or None."""
    s, others = saying
    # With one other alone none is left without it, and there is no such ground, as some order meets the case.
    for o in others:
        ground = ground_by(table, (s, others_without(saying, o)))
        if ground is not None:
            return (o, ground)
    return None


def book_standing(table, saying):
    """Returns the standing of a saying of the base."""
    s, others = saying
    ahead = row_ahead(table, saying)
    orders = tuple([finish_order(table, ahead + [o, s]) for o in others])
    return ("book", stuck_reasons(table, mask_of(others)), orders)


def tight_orders(table, saying):
    """Returns for each of two or more others an order with the sheet under this one alone; () for one other."""
    s, others = saying
    if len(others) == 1:
        return ()
    return tuple([order_ahead(table, s, mask_of(others_without(saying, o))) for o in others])


def is_standing(case, saying, value):
    """Returns whether any value is the standing of a saying."""
    table = reasons_by_sheet(case)
    if is_tuple(value, 2) and value[0] == "broken":
        return is_ahead(table, saying[0], saying[1], value[1])
    if not is_tuple(value, 3):
        return False
    kind, first, second = value
    if kind == "loose":
        return is_spare(table, saying, first, second)
    if kind == "book":
        return is_in_base(table, saying, first, second)
    return kind == "tight" and is_tight(table, saying, first, second)


def is_ahead(table, s, others, value):
    """Returns whether any value is an order that meets the case with a sheet ahead of all others."""
    if not is_order_of(table, value):
        return False
    return all([value.index(s) < value.index(other) for other in others])


def is_spare(table, saying, o, ground):
    """Returns whether any values are one of two or more others, and a ground of the saying without it."""
    s, others = saying
    if not is_integer(o) or o not in others or len(others) == 1:
        return False
    return is_ground_by(table, (s, others_without(saying, o)), ground)


def is_tight(table, saying, ground, orders):
    """Returns whether a saying is not in the base, and any values are a ground in it and orders that show it tight."""
    s, others = saying
    base = base_of_table(table)
    if saying in base or not is_book_ground(base, saying, ground):
        return False
    if len(others) == 1:
        return orders == ()
    if not is_tuple(orders, len(others)):
        return False
    return all([is_ahead(table, s, others_without(saying, o), order) for o, order in zip(others, orders)])


def is_in_base(table, saying, jam, orders):
    """Returns whether any values show that a saying is in the base."""
    s, others = saying
    if not is_tuple(orders, len(others)) or not all([is_order_of(table, order) for order in orders]):
        return False
    ahead = orders[0][:orders[0].index(others[0])]
    if not all([order[:len(ahead) + 2] == ahead + (o, s) for o, order in zip(others, orders)]):
        return False
    if not are_reasons(table, mask_of(others), jam):
        return False
    return mask_of(jam) + mask_of(others) + mask_of(ahead) == all_of(table)
