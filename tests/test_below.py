import random
import unittest
from itertools import permutations

from laidsheets.below import find_glass, find_glass_table, is_glass_order, is_glass_table
from laidsheets.orders import find_order
from tests import plain
from tests.calls import call
from tests.samples import (BOARD, CASE, FIRST, FREE, JAMMED, ONE, PILE, TEN, WRONG, changed_once, some_cases, some_under,
                           stacked)

GLASS = (CASE, {(0, 0): "c"})
DARK = (CASE, {(0, 0): "a"})
TABLE = [(), (1,), (0, 1)]
LOOP = ((PILE, {}, ((0, (1,)), (1, (0,)))), {})
STACK = stacked("abcdefghij")


def some_glasses(seed, many, most_sheets=5, side=3):
    """So many glass cases, about half of them built round an order that meets them."""
    rng = random.Random(seed)
    for case in some_cases(seed, many, most_sheets, side):
        order = find_order(case)
        orders = plain.all_orders(case) if most_sheets < 6 else [order] if order else []
        yield case, some_under(rng, case, orders)


class IsGlassOrder(unittest.TestCase):
    def told(self, expected, glass, value):
        self.assertIs(call(self, is_glass_order, glass, value), expected, repr((glass, value))[:400])

    def right(self, glass, orders):
        for row in permutations(range(len(glass[0][0][2]))):
            self.told(row in orders, glass, row)

    def test_ordinary(self):
        self.right(GLASS, [(1, 0, 2)])
        self.right(DARK, [])
        self.right((CASE, {(0, 2): "c"}), [(1, 0, 2)])
        self.right((CASE, {}), [(1, 0, 2)])
        self.right((JAMMED, {}), [])
        self.right((FREE, {}), list(permutations(range(3))))

    def test_the_last_letter_counts_and_no_other(self):
        self.right(((stacked("aba"), {}, ()), {(0, 0): "a"}), [(0, 1, 2), (1, 0, 2), (1, 2, 0), (2, 1, 0)])
        self.right(((stacked("aba"), {}, ()), {(0, 0): "b"}), [(0, 2, 1), (2, 0, 1)])
        self.right(((stacked("aba"), {(0, 0): "a"}, ()), {(0, 0): "b"}), [(0, 2, 1), (2, 0, 1)])
        self.right(((stacked("abc"), {}, ()), {(0, 0): "ac"}), [(0, 1, 2), (1, 0, 2), (1, 2, 0), (2, 1, 0)])
        self.right(((stacked("abc"), {}, ()), {(0, 0): ""}), [])

    def test_one_sheet_at_the_cell(self):
        self.right(((ONE, {}, ()), {(0, 0): "a"}), [(0,)])
        self.right(((ONE, {}, ()), {(0, 0): "b"}), [])
        self.right(((ONE, {(0, 0): "a"}, ()), {(0, 0): "ab"}), [(0,)])
        self.right(((BOARD, {}, ()), {(0, 0): "b"}), [])

    def test_both_sides_and_sayings(self):
        case = (PILE, {(0, 0): "a"}, ((2, (1,)),))
        self.right((case, {}), [(0, 1, 2), (1, 0, 2)])
        self.right((case, {(0, 1): "a"}), [(1, 0, 2)])
        self.right((case, {(0, 1): "a", (0, 2): "b"}), [])

    def test_numbers_and_kinds(self):
        for value in ((1, 0), (1, 0, 2, 2), (1, 0, 0), (1, 0, 3), (1, 0, -1), (), (1,), (True, 0, 2), (1, False, 2),
                      [1, 0, 2], "102", None, 102, True, {1: 0, 0: 0, 2: 0}, (1, 0, "2"), (1, 0, None), (1, 0, (2,)),
                      ((1, 0, 2),), (1, 0, [2])):
            self.told(False, GLASS, value)
        self.told(False, ((ONE, {}, ()), {}), (False,))

    def test_any_value(self):
        for value in WRONG:
            for glass in (GLASS, DARK, (FREE, {})):
                self.told(glass[0] == FREE and value == (0, 1, 2) and type(value) is tuple, glass, value)
                self.told(False, glass, (value, 0, 2) if repr(value) != "1" else value)

    def test_by_the_document(self):
        tally = [0, 0]
        rng = random.Random(101)
        for glass in some_glasses(102, 300):
            rows = list(permutations(range(len(glass[0][0][2]))))
            rows = rng.sample(rows, min(6, len(rows))) + plain.all_orders(glass[0])[:6] + plain.all_glass_orders(glass)[:3]
            for row in rows:
                tally[plain.glass_meets(glass, row)] += 1
                self.told(plain.glass_meets(glass, row), glass, row)
        self.assertGreater(min(tally), 200, tally)


class Found(unittest.TestCase):
    def told(self, glass, right):
        """Tests that an order is found, or a table, whichever there is."""
        order = call(self, find_glass, glass)
        table = call(self, find_glass_table, glass)
        self.assertEqual(order is not None, right, glass)
        self.assertEqual(table is None, right, glass)
        if right:
            self.assertIs(call(self, is_glass_order, glass, order), True)
            self.assertTrue(plain.glass_meets(glass, order))
        else:
            self.assertIs(type(table), list)
            self.assertIs(call(self, is_glass_table, glass, table), True)

    def test_ordinary(self):
        self.told(GLASS, True)
        self.told(DARK, False)
        self.told((CASE, {}), True)
        self.told((JAMMED, {}), False)
        self.told((FREE, {(0, 0): "a", (0, 1): "b", (0, 2): "c"}), False)
        self.told((FREE, {(0, 0): "a", (0, 1): "b", (0, 2): "b"}), True)
        self.told((FIRST, {(0, 0): "a"}), False)
        self.told(LOOP, False)

    def test_one_sheet(self):
        self.told(((ONE, {(0, 0): "a"}, ()), {(0, 0): "a"}), True)
        self.told(((ONE, {}, ()), {(0, 0): "b"}), False)
        self.told(((ONE, {}, ()), {(0, 0): ""}), False)
        self.told(((ONE, {(0, 0): "b"}, ()), {(0, 0): "a"}), False)
        self.assertEqual(find_glass_table(((ONE, {}, ()), {(0, 0): "b"})), [()])

    def test_by_the_document(self):
        tally = {}
        for number, glass in enumerate(some_glasses(103, 700)):
            orders = plain.all_glass_orders(glass)
            self.told(glass, bool(orders))
            self.assertIn(find_glass(glass), orders or [None])
            if not orders and number % 2:
                self.assertTrue(plain.glass_table_holds(glass, find_glass_table(glass)))
            kind = (bool(orders), bool(plain.all_orders(glass[0])))
            tally[kind] = tally.get(kind, 0) + 1
        self.assertGreater(min(tally[True, True], tally[False, True], tally[False, False]), 80, tally)

    def test_ten_sheets(self):
        free = (STACK, {}, ())
        self.told(((TEN, {}, ()), {}), True)
        self.told((free, {}), True)
        self.told((free, {(0, 0): "j"}), True)
        self.told((free, {(0, 0): "k"}), False)
        self.told(((STACK, {(0, 0): "c"}, ()), {(0, 0): "c"}), False)
        self.told(((STACK, {(0, 0): "c"}, ((3, (9,)),)), {(0, 0): "d"}), True)
        self.assertEqual(len(find_glass_table((free, {(0, 0): "k"}))), 2 ** 10 - 1)

    def test_large_boards(self):
        tally = [0, 0]
        for glass in some_glasses(104, 120, 10, 8):
            order = call(self, find_glass, glass)
            tally[order is None] += 1
            self.told(glass, order is not None)
        self.assertGreater(min(tally), 30, tally)

    def test_eleven_sheets_raise_nothing(self):
        free = (stacked("abcdefghijk"), {}, ())
        self.assertEqual(find_glass((free, {(0, 0): "a"}))[10], 0)
        table = find_glass_table((free, {(0, 0): "z"}))
        self.assertEqual(len(table), 2 ** 11 - 1)
        self.assertIs(is_glass_table((free, {(0, 0): "z"}), table), True)


class IsGlassTable(unittest.TestCase):
    def told(self, expected, glass, value):
        self.assertIs(call(self, is_glass_table, glass, value), expected, repr((glass, value))[:400])

    def test_ordinary(self):
        self.told(True, DARK, TABLE)
        self.told(False, GLASS, TABLE)
        self.told(True, LOOP, [(), (2,)])
        self.told(True, ((ONE, {}, ()), {(0, 0): "b"}), [()])
        self.told(False, ((ONE, {}, ()), {(0, 0): "a"}), [()])
        self.told(False, ((ONE, {}, ()), {}), [()])

    def test_in_any_row(self):
        for row in permutations(TABLE):
            self.told(True, DARK, list(row))

    def test_one_set_left_out(self):
        for at in range(3):
            self.told(False, DARK, TABLE[:at] + TABLE[at + 1:])
        self.told(False, DARK, [])
        self.told(False, LOOP, [(2,)])
        self.told(False, LOOP, [()])
        self.told(False, LOOP, [])

    def test_one_set_twice(self):
        for at in range(3):
            self.told(False, DARK, TABLE + [TABLE[at]])
        self.told(False, LOOP, [(), (), (2,)])
        self.told(False, LOOP, [()] * 40000)

    def test_the_set_of_all_sheets(self):
        self.told(False, DARK, TABLE + [(0, 1, 2)])
        self.told(False, GLASS, TABLE + [(0, 1, 2)])
        self.told(False, LOOP, [(), (2,), (0, 1, 2)])
        self.told(False, ((ONE, {}, ()), {}), [(), (0,)])

    def test_sets_that_no_step_leads_to(self):
        self.told(True, DARK, TABLE + [(0,)])
        self.told(False, DARK, TABLE + [(0, 2)])
        self.told(False, LOOP, [(), (2,), (0,)])
        self.told(False, LOOP, [(), (2,), (0,), (0, 2)])
        self.told(False, LOOP, [(), (2,), (0,), (0, 1)])
        self.told(False, LOOP, [(), (2,), (0, 1)])
        self.told(False, (JAMMED, {}), [(), (0,)])
        self.told(False, ((JAMMED[0], JAMMED[1], ((2, (0,)),)), {(0, 0): "c"}), [(), (0,)])
        self.told(True, (JAMMED, {}), [()])

    def test_items_that_are_no_sets(self):
        for item in ((1, 0), (0, 0), (2, 1), (3,), (-1,), (0, 3), (0, 1, 1), (0, 1, 2, 3), (True,), (False, 1), (0, True),
                     (None,), ("0",), ((0,),), [0], [], {}, 0, 1, None, "", "01", True, ((),), (0, None), (10 ** 29,)):
            self.told(False, DARK, TABLE + [item])
            self.told(False, LOOP, [(), (2,), item])
        self.told(False, DARK, [(), (True,), (0, 1)])
        self.told(False, DARK, [(), (1,), (False, 1)])

    def test_no_list(self):
        for value in (tuple(TABLE), {some: 0 for some in TABLE}, (TABLE,), [TABLE], "", None, True, 0, (), {}, [[]], [[()]],
                      [tuple(TABLE)], [list(some) for some in TABLE]):
            self.told(False, DARK, value)

    def test_any_value(self):
        for value in WRONG:
            for glass in (GLASS, DARK, LOOP):
                self.told(False, glass, value)
                self.told(glass == DARK and value == (0,), glass, TABLE + [value])
                self.told(False, glass, [value, (2,)] if value != () else [])
                self.told(False, glass, [(), value])

    def test_changed_in_one_place(self):
        tally = [0, 0]
        rng = random.Random(105)
        for glass in some_glasses(106, 900, 4):
            table = find_glass_table(glass)
            if table is not None:
                for _ in range(5):
                    value = changed_once(rng, table)
                    tally[plain.glass_table_holds(glass, value)] += 1
                    self.told(plain.glass_table_holds(glass, value), glass, value)
        self.assertGreater(min(tally), 100, tally)

    def test_some_sets(self):
        tally = [0, 0]
        rng = random.Random(107)
        for glass in some_glasses(108, 400, 3):
            sets = [()] + plain.some_sheets(glass[0], 3)[:-1]
            for _ in range(6):
                value = rng.sample(sets, rng.randint(1, len(sets)))
                tally[plain.glass_table_holds(glass, value)] += 1
                self.told(plain.glass_table_holds(glass, value), glass, value)
        self.assertGreater(min(tally), 100, tally)


if __name__ == "__main__":
    unittest.main()
