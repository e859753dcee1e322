"""The examples of the document, as they stand there; stage by stage."""

import doctest
import pathlib
import re
import unittest

from laidsheets.above import above_table, find_above, find_held
from laidsheets.below import find_glass, find_glass_table, is_glass_order, is_glass_table
from laidsheets.books import base_of, find_book_ground, find_source, is_book, is_source, meets
from laidsheets.comparing import find_only, implies, narrowed, same_orders
from laidsheets.cores import find_core, is_core
from laidsheets.counts import count_orders, nth_order, number_of
from laidsheets.deciding import fewest_readings, find_hold, find_plan, is_hold, is_plan
from laidsheets.desk import Desk
from laidsheets.distances import distances, order_apart, pair_counts
from laidsheets.errors import InvalidEvent
from laidsheets.following import find_breach, find_ground, is_ground
from laidsheets.jams import find_jam, is_jam, taken
from laidsheets.letters import best_cell, letter_counts, order_showing
from laidsheets.logs import is_log, replayed
from laidsheets.loose import case_at, count_placings, find_bars, find_placing, sure_spots
from laidsheets.misread import fewest_misread, find_misread, find_values, shows
from laidsheets.moverlogs import first_mover_fault, is_mover_log, mover_behind
from laidsheets.movers import Mover
from laidsheets.nearest import farthest, nearest, shows_near
from laidsheets.orders import find_order, is_order, seen
from laidsheets.parts import find_part, find_part_jam, is_part, is_part_jam
from laidsheets.piles import covered, is_case, is_pile, is_saying, is_view
from laidsheets.places import order_with, places
from laidsheets.second import order_second, second_counts
from laidsheets.standing import find_standing
from laidsheets.topsets import fitting, paths, tight_sayings, top_sets
from laidsheets.ways import distance, find_way, next_orders
from tests.samples import PILE

CONVENTIONS = """
    >>> PILE = (1, 3, ((0, 0, ('aa',)), (0, 1, ('bb',)), (0, 0, ('c.c',))))
    >>> CASE = (PILE, {(0, 0): 'a', (0, 1): 'b'}, ())
    >>> JAMMED = (PILE, {(0, 0): 'a', (0, 1): 'b', (0, 2): 'c'}, ())
    >>> LOOSE = (1, 3, ((((0, 0), (0, 1)), ('aa',)), (((0, 1),), ('bb',))))
    >>> ASKED = (LOOSE, {(0, 0): 'a', (0, 1): 'b'}, ())
"""

PILES = """
    >>> [is_pile(PILE), is_case(CASE), is_view(PILE, {(0, 3): 'a'}), is_saying(PILE, (1, (0, 2))), is_saying(PILE, (1, (1,)))]
    [True, True, False, True, False]
    >>> covered(PILE) == {(0, 0): [(0, 'a'), (2, 'c')], (0, 1): [(0, 'a'), (1, 'b')], (0, 2): [(1, 'b'), (2, 'c')]}
    True
"""

ORDERS = """
    >>> [find_order(CASE), find_order(JAMMED), is_order(CASE, (1, 0, 2)), is_order(CASE, (0, 1, 2)), seen(PILE, (1, 0, 2))]
    [(1, 0, 2), None, True, False, ('abb',)]
"""

JAMS = """
    >>> [find_jam(CASE), taken(CASE), taken(JAMMED), is_jam(JAMMED, {0: ('cell', (0, 1)), 1: ('cell', (0, 2)), 2: ('cell', (0, 0))})]
    [None, (0, 1, 2), (), True]
    >>> is_jam(JAMMED, {0: ('cell', (0, 1)), 1: ('cell', (0, 2))})
    False
"""

ABOVE = """
    >>> [find_above(CASE, 1, 2), find_above(CASE, 2, 1), find_held(CASE, 1, 2), above_table(CASE)]
    [(1, 0, 2), None, {0: ('cell', (0, 1)), 2: ('cell', (0, 0))}, [(0, 2), (1, 0), (1, 2)]]
"""

COUNTS = """
    >>> [count_orders(CASE), count_orders(JAMMED), nth_order((PILE, {}, ()), 3), number_of((PILE, {}, ((0, (2,)),)), (2, 1, 0))]
    [1, 0, (1, 2, 0), 2]
"""

PLACES = """
    >>> [places(CASE, 0), places((PILE, {(0, 0): 'a'}, ()), 2), order_with(CASE, 0, 2), order_with(CASE, 0, 1)]
    [[1], [1, 2], None, (1, 0, 2)]
"""

LETTERS = """
    >>> [letter_counts(CASE, (0, 2)), letter_counts((PILE, {}, ()), (0, 0)), order_showing(CASE, (0, 2), 'c'), best_cell(CASE), best_cell((PILE, {}, ()))]
    [{'b': 1}, {'a': 3, 'c': 3}, None, None, (0, 0)]
"""

SECOND = """
    >>> [second_counts(CASE, (0, 1)), second_counts((PILE, {}, ()), (0, 0)), second_counts(((1, 1, ((0, 0, ('a',)),)), {}, ()), (0, 0))]
    [{'a': 1}, {'a': 3, 'c': 3}, {'': 1}]
    >>> [order_second(CASE, (0, 2), 'c'), order_second(CASE, (0, 2), 'b')]
    [(1, 0, 2), None]
"""

PARTS = """
    >>> [find_part(CASE), find_part(JAMMED), is_part((PILE, {(0, 2): 'c'}, ()), (2,)), find_part_jam(JAMMED)[0] in [(0, 0), (0, 1), (0, 2)]]
    [(1, 0, 2), None, True, True]
"""

MISREAD = """
    >>> [fewest_misread(CASE), fewest_misread(JAMMED), fewest_misread((PILE, {}, ((0, (1,)), (1, (0,)))))]
    [0, 1, None]
"""

BELOW = """
    >>> [find_glass((CASE, {(0, 0): 'c'})), find_glass((CASE, {(0, 0): 'a'})), is_glass_order((CASE, {(0, 2): 'c'}), (1, 0, 2))]
    [(1, 0, 2), None, True]
    >>> [find_glass_table((CASE, {(0, 0): 'c'})), is_glass_table((CASE, {(0, 0): 'a'}), [(), (1,), (0, 1)])]
    [None, True]
"""

COMPARING = """
    >>> [find_only(CASE, (PILE, {(0, 2): 'b'}, ())), implies(CASE, (PILE, {}, ((2, (1,)),))), narrowed(CASE)[1] == {(0, 0): 'a', (0, 1): 'b', (0, 2): 'b'}]
    [None, True, True]
"""

CORES = """
    >>> [find_core(JAMMED), find_core(CASE), is_core(JAMMED, (((0, 0), (0, 1)), ()))]
    [(((0, 0), (0, 1), (0, 2)), ()), None, False]
"""

SPOTS = """
    >>> [find_placing(ASKED), count_placings(ASKED), sure_spots(ASKED), case_at(ASKED, ((0, 1), (0, 1)))]
    [(((0, 0), (0, 1)), (1, 0)), (1, 1), [[(0, 0)], [(0, 1)]], None]
    >>> find_bars((LOOSE, {(0, 0): 'b'}, ())) == {((0, 0), (0, 1)): ('jam', {0: ('cell', (0, 0))}), ((0, 1), (0, 1)): ('bare', (0, 0))}
    True
"""

DESK = """
    >>> desk = Desk(PILE)
    >>> [desk.read((0, 0), 'ab'), desk.read((0, 1), 'b'), desk.case()[1] == {(0, 0): 'ab', (0, 1): 'b'}, desk.order()]
    [None, None, True, (1, 0, 2)]
    >>> desk = Desk(PILE)
    >>> desk.read((0, 3), 'a')
    raises InvalidEvent(('read', (0, 3), 'a'))
"""

LOGS = """
    >>> [is_log(PILE, [(('read', (0, 0), 'a'), (0, 1, 2))]), is_log(PILE, [(('read', (0, 0), 'a'), (2, 0, 1))])]
    [True, False]
    >>> replayed(PILE, [(('say', (0, (1,))), (1, 0, 2))]) == (PILE, {}, ((0, (1,)),))
    True
"""

STAGES = """
    >>> FIRST = (PILE, {(0, 0): 'a'}, ())
    >>> EITHER = (PILE, {}, ((0, (1, 2)), (1, (0, 2))))
"""

FOLLOWING = """
    >>> [find_breach(CASE, (2, (1,))), find_breach(CASE, (1, (0, 2))), find_ground(CASE, (1, (0, 2)))]
    [None, (1, 0, 2), None]
    >>> [find_ground(CASE, (0, (1, 2))), is_ground(CASE, (2, (1,)), {0: ('cell', (0, 1)), 2: ('cell', (0, 0))}), is_ground(CASE, (2, (1,)), {2: ('cell', (0, 0))})]
    [{0: ('cell', (0, 1))}, True, False]
"""

TOPSETS = """
    >>> [top_sets(CASE), fitting(FIRST, ()), fitting(FIRST, (0,)), paths(CASE, 2), tight_sayings(CASE, 2)]
    [[(), (0, 1), (0, 1, 2), (1,)], (0, 1), (1, 2), [(0, 1, 2)], [(2, (0,)), (2, (1,))]]
    >>> [paths(EITHER, 0), tight_sayings(EITHER, 0), tight_sayings(EITHER, 2)]
    [[(0, 2)], [(0, (2,))], []]
"""

BOOKS = """
    >>> [base_of(CASE), base_of(FIRST), base_of(EITHER), base_of((PILE, {}, ()))]
    [((0, (1,)), (2, (0,))), ((2, (0,)),), ((0, (2,)), (1, (2,))), ()]
    >>> [find_source(CASE, (2, (0,))), find_source(EITHER, (0, (2,))), is_source(CASE, (2, (0,)), ('cell', (0, 2)))]
    [('cell', (0, 0)), ('saying', 0), False]
    >>> [find_book_ground(base_of(CASE), (2, (1,))), find_book_ground(base_of(CASE), (1, (0,))), meets(base_of(FIRST), (2, 0, 1)), is_book(3, ((0, (1,)), (0, (1,))))]
    [{0: 0, 2: 1}, None, False, False]
"""

STANDING = """
    >>> [find_standing(CASE, (1, (0,))), find_standing(CASE, (0, (1, 2)))[:2], find_standing(CASE, (2, (1,)))]
    [('broken', (1, 0, 2)), ('loose', 2), ('tight', {0: 0, 2: 1}, ())]
    >>> find_standing(CASE, (2, (0,)))
    ('book', {2: ('cell', (0, 0))}, ((1, 0, 2),))
"""

WAYS = """
    >>> [distance((0, 2, 1), (1, 0, 2)), find_way(FIRST, (0, 2, 1), (1, 0, 2)), next_orders(FIRST, (0, 1, 2)), find_way(CASE, (1, 0, 2), (1, 0, 2))]
    [2, [(0, 2, 1), (0, 1, 2), (1, 0, 2)], [(0, 2, 1), (1, 0, 2)], [(1, 0, 2)]]
"""

NEAREST = """
    >>> [nearest(FIRST, (2, 1, 0)), farthest(FIRST, (2, 1, 0)), nearest(CASE, (0, 1, 2))]
    [((0, 2, 1), 2), ((0, 1, 2), 3), ((1, 0, 2), 1)]
    >>> [shows_near(CASE, (0, 1, 2), {(): 0, (1,): 1, (0, 1): 1, (0, 1, 2): 1}, 1), shows_near(CASE, (0, 1, 2), {(): 0}, 1)]
    [True, False]
"""

DISTANCES = """
    >>> [distances(FIRST, (0, 1, 2)), distances(FIRST, (2, 1, 0)), order_apart(FIRST, (0, 1, 2), 2), pair_counts(FIRST)[(0, 1)]]
    [[1, 2, 0, 0], [0, 0, 2, 1], None, 2]
"""

DECIDING = """
    >>> ASK = ((0, 0), (0, 1), (0, 2))
    >>> [fewest_readings(FIRST, ASK), fewest_readings(CASE, ASK), find_plan(CASE, ASK), find_hold(FIRST, ASK, 2)]
    [2, 0, {}, None]
    >>> [is_plan(FIRST, ASK, 2, {(): (0, 1), (((0, 1), 'a'),): (0, 2)}), is_hold(FIRST, ASK, 1, {((), (0, 0)): 'a', ((), (0, 1)): 'a', ((), (0, 2)): 'b'}), find_hold(FIRST, ASK, 0)]
    [True, True, {}]
"""

MOVERS = """
    >>> mover = Mover(PILE)
    >>> [mover.say((0, (1, 2))), mover.order(), mover.say((1, (0,))), mover.order(), mover.book()]
    [1, (1, 0, 2), 3, (2, 0, 1), ((0, (2,)), (1, (0,)))]
    >>> [mover.log()[0][:2], mover.read((0, 2), 'c'), mover.trim(), mover.undo(), mover.undo(), len(mover.log())]
    [(('say', (0, (1, 2))), [(0, 1, 2), (1, 0, 2)]), 0, [], ('trim',), ('read', (0, 2), 'c'), 2]
"""

MOVERLOGS = """
    >>> mover = Mover(PILE)
    >>> [mover.say((0, (1,))), is_mover_log(PILE, mover.log()), mover_behind(PILE, mover.log()), first_mover_fault(PILE, mover.log() + [('trim', ((0, (1,)),))])]
    [1, True, ((PILE, {}, ((0, (1,)),)), (1, 0, 2)), 1]
"""

NAMES = (above_table, best_cell, count_orders, covered, find_above, find_held, find_jam, find_order, is_case, is_jam,
         is_order, is_pile, is_saying, is_view, letter_counts, nth_order, number_of, order_second, order_showing,
         order_with, places, second_counts, seen, taken, find_part, find_part_jam, is_part, is_part_jam, fewest_misread,
         find_misread, find_values, shows, find_glass, find_glass_table, is_glass_order, is_glass_table, find_only,
         implies, narrowed, same_orders, find_core, is_core, case_at, count_placings, find_bars, find_placing, sure_spots,
         Desk, is_log, replayed, find_breach, find_ground, is_ground, top_sets, fitting, paths, tight_sayings, base_of,
         find_source, is_source, find_book_ground, meets, is_book, find_standing, distance, find_way, next_orders,
         nearest, farthest, shows_near, distances, order_apart, pair_counts, fewest_readings, find_plan, find_hold, is_plan,
         is_hold, Mover, is_mover_log, mover_behind, first_mover_fault)


RAISES = re.compile(r">>> (.*)\n    raises (\w+)\((.*)\)\n")


def raised(call, error, *holds):
    """Whether a call raises just this error, with attributes that hold just these values."""
    try:
        call()
    except Exception as found:
        return type(found) is error and list(vars(found).values()) == list(holds)
    return False


class Examples(unittest.TestCase):
    def check(self, text):
        names = {function.__name__: function for function in NAMES + (InvalidEvent, raised)}
        # doctest does not know the document's way to write that an error is raised.
        text = RAISES.sub(r">>> raised(lambda: \1, \2, \3)\n    True\n", text)
        test = doctest.DocTestParser().get_doctest(CONVENTIONS + text, names, "the document", None, None)
        self.assertGreater(len(test.examples), 5)
        told = []
        result = doctest.DocTestRunner(verbose=False).run(test, out=told.append)
        self.assertEqual(result.failed, 0, "".join(told))

    def test_piles(self):
        self.check(PILES)

    def test_orders(self):
        self.check(ORDERS)

    def test_jams(self):
        self.check(JAMS)

    def test_above(self):
        self.check(ABOVE)

    def test_counts(self):
        self.check(COUNTS)

    def test_places(self):
        self.check(PLACES)

    def test_letters(self):
        self.check(LETTERS)

    def test_second(self):
        self.check(SECOND)

    def test_parts(self):
        self.check(PARTS)

    def test_misread(self):
        self.check(MISREAD)

    def test_below(self):
        self.check(BELOW)

    def test_comparing(self):
        self.check(COMPARING)

    def test_cores(self):
        self.check(CORES)

    def test_spots(self):
        self.check(SPOTS)

    def test_desk(self):
        self.check(DESK)

    def test_logs(self):
        self.check(LOGS)

    def test_following(self):
        self.check(STAGES + FOLLOWING)

    def test_topsets(self):
        self.check(STAGES + TOPSETS)

    def test_books(self):
        self.check(STAGES + BOOKS)

    def test_standing(self):
        self.check(STAGES + STANDING)

    def test_ways(self):
        self.check(STAGES + WAYS)

    def test_nearest(self):
        self.check(STAGES + NEAREST)

    def test_distances(self):
        self.check(STAGES + DISTANCES)

    def test_deciding(self):
        self.check(STAGES + DECIDING)

    def test_movers(self):
        self.check(STAGES + MOVERS)

    def test_moverlogs(self):
        # The pile is written out in what the interpreter shows.
        self.check(STAGES + MOVERLOGS.replace("    [1, True, ((PILE,", f"    [1, True, (({PILE!r},"))

    def test_readme(self):
        readme = pathlib.Path(__file__).resolve().parent.parent / "README.md"
        result = doctest.testfile(str(readme), module_relative=False)
        self.assertGreater(result.attempted, 12)
        self.assertEqual(result.failed, 0)


if __name__ == "__main__":
    unittest.main()
