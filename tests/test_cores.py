import random
import unittest

from laidsheets.cores import find_core, is_core
from laidsheets.orders import find_order
from tests import plain
from tests.calls import call
from tests.samples import (BOARD, CASE, FIRST, FREE, JAMMED, ONE, PILE, TEN, WRONG, changed_once, some_cases, stacked)

CORE = (((0, 0), (0, 1), (0, 2)), ())
RING = (PILE, {(0, 0): "a"}, ((0, (1,)), (1, (0, 2)), (2, (0, 1)), (0, (1, 2))))
MIXED = (PILE, {(0, 0): "a", (0, 1): "ab"}, ((0, (2,)), (1, (0,)), (0, (2,))))
STACK = stacked("abcdefghij")


class FindCore(unittest.TestCase):
    def told(self, case, *right):
        """Tests that one of these cores is found, or none if none is given."""
        core = call(self, find_core, case)
        self.assertIn(core, right or [None])
        self.assertEqual(core is None, find_order(case) is not None)
        if core is not None:
            self.assertIs(call(self, is_core, case, core), True)
            self.assertTrue(plain.core_holds(case, core))

    def test_no_core_where_there_is_an_order(self):
        for case in (CASE, FREE, FIRST, (ONE, {}, ()), (ONE, {(0, 0): "a"}, ()), (BOARD, {(7, 7): "z"}, ((0, (1,)),))):
            self.told(case)

    def test_readings(self):
        self.told(JAMMED, CORE)
        self.told((ONE, {(0, 0): ""}, ()), (((0, 0),), ()))
        self.told((PILE, {(0, 0): "x", (0, 1): "b", (0, 2): "b"}, ()), (((0, 0),), ()))
        self.told((PILE, {(0, 0): "x", (0, 1): "", (0, 2): "b"}, ()), (((0, 0),), ()), (((0, 1),), ()))

    def test_sayings(self):
        self.told((PILE, {}, ((2, (0,)), (1, (0,)), (0, (1,)))), ((), (1, 2)))
        self.told((PILE, {}, ((0, (1,)),) * 3 + ((1, (0,)),) * 3), *[((), (i, j)) for i in range(3) for j in range(3, 6)])
        self.told(RING, ((), (0, 1, 2)), ((), (1, 2, 3)), (((0, 0),), (0, 1)), (((0, 0),), (1, 3)))

    def test_both(self):
        self.told(MIXED, (((0, 0),), (0,)), (((0, 0),), (2,)))
        self.told((PILE, {(0, 0): "a", (0, 2): "c"}, ((0, (1,)),)), (((0, 0), (0, 2)), (0,)))

    def test_by_the_document(self):
        tally = {}
        for case in some_cases(121, 1300):
            core = call(self, find_core, case)
            self.assertEqual(core is None, bool(plain.all_orders(case)))
            if core is not None:
                self.assertTrue(plain.core_holds(case, core), (case, core))
                self.assertIs(call(self, is_core, case, core), True)
            kind = core and (bool(core[0]), bool(core[1]))
            tally[kind] = tally.get(kind, 0) + 1
        self.assertGreater(min(tally[kind] for kind in (None, (True, False), (False, True), (True, True))), 20, tally)

    def test_ten_sheets(self):
        self.assertIsNone(call(self, find_core, (TEN, {}, ())))
        self.assertEqual(call(self, find_core, (STACK, {(0, 0): "k"}, ())), (((0, 0),), ()))
        ring = tuple((s, ((s + 1) % 6,)) for s in range(6))
        self.assertEqual(call(self, find_core, (STACK, {}, ring)), ((), (0, 1, 2, 3, 4, 5)))
        self.assertEqual(call(self, find_core, (STACK, {(0, 0): "ab"}, ring[:5])), (((0, 0),), (0, 1)))
        tally = [0, 0]
        for case in some_cases(122, 150, 10, 8):
            core = call(self, find_core, case)
            self.assertEqual(core is None, find_order(case) is not None)
            tally[core is None] += 1
            if core is not None:
                self.assertIs(call(self, is_core, case, core), True)
        self.assertGreater(min(tally), 30, tally)

    def test_eleven_sheets_raise_nothing(self):
        self.assertEqual(find_core((stacked("abcdefghijk"), {(0, 0): "z"}, ((0, (10,)),))), (((0, 0),), ()))


class IsCore(unittest.TestCase):
    def told(self, expected, case, value):
        self.assertIs(call(self, is_core, case, value), expected, repr((case, value))[:400])

    def test_ordinary(self):
        self.told(True, JAMMED, CORE)
        self.told(False, JAMMED, (((0, 0), (0, 1)), ()))
        self.told(True, MIXED, (((0, 0),), (0,)))
        self.told(True, MIXED, (((0, 0),), (2,)))
        for numbers in ((0, 1, 2), (1, 2, 3)):
            self.told(True, RING, ((), numbers))
        self.told(True, RING, (((0, 0),), (0, 1)))

    def test_too_few(self):
        for value in (((), ()), (((0, 0), (0, 2)), ()), (((0, 1), (0, 2)), ()), (((0, 0),), ())):
            self.told(False, JAMMED, value)
        for value in (((), (0,)), (((0, 0),), ()), (((0, 0),), (1,)), (((0, 1),), (0,)), ((), ())):
            self.told(False, MIXED, value)

    def test_too_many(self):
        case = (PILE, JAMMED[1], ((2, (0,)), (0, (1,))))
        self.told(True, case, CORE)
        self.told(False, case, (CORE[0], (0,)))
        self.told(False, case, (CORE[0], (1,)))
        self.told(True, case, (((0, 2),), (0, 1)))
        self.told(False, case, (((0, 1), (0, 2)), (0, 1)))
        for value in ((((0, 0), (0, 1)), (0,)), (((0, 0),), (0, 2)), (((0, 0),), (0, 1))):
            self.told(False, MIXED, value)
        self.told(False, RING, ((), (0, 1, 2, 3)))

    def test_no_core_where_there_is_an_order(self):
        for value in (((), ()), (((0, 0),), ()), (((0, 0), (0, 1)), ())):
            self.told(False, CASE, value)
            self.told(False, (ONE, {(0, 0): "a"}, ()), value)
        self.told(False, FREE, ((), ()))

    def test_one_sheet(self):
        self.told(True, (ONE, {(0, 0): "b"}, ()), (((0, 0),), ()))
        self.told(False, (ONE, {(0, 0): "b"}, ()), ((), ()))

    def test_ascending_and_different(self):
        for cells in (((0, 1), (0, 0), (0, 2)), ((0, 0), (0, 2), (0, 1)), ((0, 0), (0, 0), (0, 1), (0, 2)), CORE[0] + ((0, 2),)):
            self.told(False, JAMMED, (cells, ()))
        for numbers in ((1, 0, 2), (0, 2, 1), (0, 1, 1, 2), (0, 0, 1, 2), (2, 1, 0), (0, 1, 2, 2)):
            self.told(False, RING, ((), numbers))

    def test_cells_and_sayings_that_there_are_not(self):
        for cell in ((0, 3), (1, 0), (-1, 0), (0, -1)):
            self.told(False, JAMMED, (tuple(sorted(CORE[0] + (cell,))), ()))
        self.told(False, (PILE, {(0, 0): "x"}, ()), (((0, 0), (0, 1)), ()))
        self.told(False, (PILE, {(0, 0): "x"}, ()), (((0, 1),), ()))
        for i in (-1, 4, 5, 10 ** 29, -4):
            self.told(False, RING, ((), tuple(sorted((0, 1, 2, i)))))
            self.told(False, RING, (((0, 0),), tuple(sorted((0, i)))))
        for i in (0, -1):
            self.told(False, JAMMED, (CORE[0], (i,)))

    def test_other_kinds(self):
        for value in ((list(CORE[0]), ()), (CORE[0], []), (CORE[0],), CORE + ((),), list(CORE), CORE[0], ((), CORE[0]),
                      (CORE[0], None), (None, ()), (CORE[0], {}), (CORE[0], ""), (CORE[0], 0), (0, ()), ({}, ()), "", None,
                      {CORE[0]: ()}, ((CORE[0],), ()), (CORE[0], ((),)), (((0, False), (0, 1), (0, 2)), ()),
                      (((0, 0), (0, True), (0, 2)), ()), (((0, 0), [0, 1], (0, 2)), ()), (((0, 0), (0, 1), (0, 2, 0)), ()),
                      (((0, 0), (0, 1), (0,)), ()), (((0, 0), (0, 1), 2), ()), (((0, 0), None), ())):
            self.told(False, JAMMED, value)
        for numbers in ((False, 1, 2), (0, True, 2), ("0", 1, 2), (None, 1, 2), ((0,), 1, 2), ([0], 1, 2), [0, 1, 2], {0: 1},
                        "012"):
            self.told(False, RING, ((), numbers))
            self.told(False, RING, (((0, 0),), numbers))

    def test_any_value(self):
        for value in WRONG:
            for case in (CASE, JAMMED, RING):
                self.told(False, case, value)
                self.told(False, case, (value, value))
                self.told(False, case, (CORE[0], value) if value != () else value)
                self.told(case == RING and value == (0, 1, 2) and type(value) is tuple, case, ((), value))
                self.told(False, case, ((value,), ()))
                self.told(False, case, ((), (value,)))

    def test_changed_in_one_place(self):
        tally = [0, 0]
        rng = random.Random(123)
        for case in some_cases(124, 900, 4):
            core = find_core(case)
            if core is not None:
                for _ in range(5):
                    value = changed_once(rng, core)
                    tally[plain.core_holds(case, value)] += 1
                    self.told(plain.core_holds(case, value), case, value)
        self.assertGreater(tally[False], 500, tally)

    def test_some_readings_and_sayings(self):
        tally = [0, 0]
        rng = random.Random(125)
        for case in some_cases(126, 600, 4):
            if find_order(case) is None:
                for _ in range(8):
                    cells = tuple(cell for cell in sorted(case[1]) if rng.random() < 0.4)
                    numbers = tuple(i for i in range(len(case[2])) if rng.random() < 0.4)
                    tally[plain.core_holds(case, (cells, numbers))] += 1
                    self.told(plain.core_holds(case, (cells, numbers)), case, (cells, numbers))
        self.assertGreater(min(tally), 80, tally)


if __name__ == "__main__":
    unittest.main()
