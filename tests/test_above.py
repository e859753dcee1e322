import random
import unittest
from itertools import permutations, product

from laidsheets.above import above_table, find_above, find_held, is_held
from laidsheets.jams import find_jam
from laidsheets.orders import is_order
from tests import plain
from tests.calls import call
from tests.samples import (BOARD, CASE, EITHER, FIRST, FREE, JAMMED, ONE, PILE, WRONG, changed_once, deep, some_cases,
                           stacked)

HELD = {0: ("cell", (0, 1)), 2: ("cell", (0, 0))}
CHAIN = (stacked("abcdefghij"), {(0, 0): "j"}, tuple((s, (s + 1,)) for s in range(3, 9)))


def pairs(case):
    return list(permutations(range(len(case[0][2])), 2))


class FindAbove(unittest.TestCase):
    def test_one_order(self):
        for s, t in pairs(CASE):
            expected = (1, 0, 2) if (s, t) in ((1, 0), (1, 2), (0, 2)) else None
            self.assertEqual(call(self, find_above, CASE, s, t), expected)

    def test_no_readings_and_no_sayings(self):
        for s, t in pairs(FREE):
            found = call(self, find_above, FREE, s, t)
            self.assertIs(is_order(FREE, found), True)
            self.assertTrue(plain.stands_ahead(found, s, t))

    def test_ten_sheets(self):
        for s, t in pairs(CHAIN):
            found = call(self, find_above, CHAIN, s, t)
            if t == 9 or s in range(3, 9) and s < t:
                self.assertIsNone(found)
            else:
                self.assertIs(is_order(CHAIN, found), True)
                self.assertTrue(plain.stands_ahead(found, s, t))

    def test_by_the_document(self):
        tally = [0, 0]
        for case in some_cases(31, 700):
            orders = plain.all_orders(case)
            for s, t in pairs(case) if orders else []:
                found = call(self, find_above, case, s, t)
                right = [order for order in orders if plain.stands_ahead(order, s, t)]
                tally[bool(right)] += 1
                self.assertIn(found, right or [None])
        self.assertGreater(min(tally), 300, tally)


class FindHeld(unittest.TestCase):
    def test_one_order(self):
        self.assertEqual(call(self, find_held, CASE, 1, 2), HELD)
        self.assertTrue(plain.held_holds(CASE, 1, 0, call(self, find_held, CASE, 1, 0)))
        self.assertEqual(call(self, find_held, CASE, 0, 2), {2: ("cell", (0, 0))})
        for s, t in ((0, 1), (2, 1), (2, 0)):
            self.assertIsNone(call(self, find_held, CASE, s, t))

    def test_sayings(self):
        for s in (0, 1):
            self.assertEqual(call(self, find_held, EITHER, 2, s), {0: ("saying", 0), 1: ("saying", 1)})
        for s, t in ((0, 1), (1, 0), (0, 2), (1, 2)):
            self.assertIsNone(call(self, find_held, EITHER, s, t))

    def test_no_readings_and_no_sayings(self):
        for s, t in pairs(FREE):
            self.assertIsNone(call(self, find_held, FREE, s, t))

    def test_ten_sheets(self):
        for s, t in pairs(CHAIN):
            held = call(self, find_held, CHAIN, s, t)
            self.assertEqual(held is not None, s == 9 or t in range(3, 9) and t < s)
            self.assertTrue(held is None or plain.held_holds(CHAIN, s, t, held))

    def test_just_one_of_an_order_and_a_held_jam(self):
        tally = [0, 0]
        for case in some_cases(32, 700):
            orders = plain.all_orders(case)
            for s, t in pairs(case) if orders else []:
                held = call(self, find_held, case, s, t)
                other = any(plain.stands_ahead(order, t, s) for order in orders)
                tally[other] += 1
                self.assertEqual(held is None, other)
                self.assertEqual(held is None, find_above(case, t, s) is not None)
                self.assertEqual(held is not None, plain.some_held(case, s, t))
                if held is not None:
                    self.assertTrue(plain.held_holds(case, s, t, held))
                    self.assertIs(is_held(case, s, t, held), True)
        self.assertGreater(min(tally), 300, tally)


class IsHeld(unittest.TestCase):
    def told(self, expected, case, s, t, value):
        self.assertIs(call(self, is_held, case, s, t, value), expected, repr((case, s, t, value))[:400])

    def test_ordinary(self):
        self.told(True, CASE, 1, 2, HELD)
        self.told(True, CASE, 1, 0, HELD)
        self.told(True, CASE, 1, 0, {0: ("cell", (0, 1))})
        self.told(True, CASE, 0, 2, {2: ("cell", (0, 0))})
        self.told(True, EITHER, 2, 0, {0: ("saying", 0), 1: ("saying", 1)})

    def test_a_sheet_that_is_missing(self):
        self.told(False, CASE, 1, 2, {2: ("cell", (0, 0))})
        self.told(False, CASE, 1, 2, {0: ("cell", (0, 1))})
        self.told(False, EITHER, 2, 0, {0: ("saying", 0)})
        for s, t in pairs(CASE):
            self.told(False, CASE, s, t, {})
            self.told(False, JAMMED, s, t, {})

    def test_the_sheet_that_holds_is_not_among_them(self):
        self.told(False, JAMMED, 1, 0, {0: ("cell", (0, 1)), 1: ("cell", (0, 2)), 2: ("cell", (0, 0))})
        self.told(False, (PILE, {}, ((0, (1,)), (1, (0,)))), 1, 0, {0: ("saying", 0), 1: ("saying", 1)})
        self.told(True, (PILE, {}, ((0, (1,)), (1, (0,)))), 1, 0, {0: ("saying", 0)})
        self.told(True, (PILE, {}, ((0, (1,)), (1, (0,)))), 0, 1, {1: ("saying", 1)})

    def test_a_sheet_that_holds_another_one(self):
        self.told(False, CASE, 0, 1, HELD)
        self.told(False, CASE, 0, 2, HELD)
        self.told(False, CASE, 2, 1, HELD)
        self.told(False, CASE, 0, 1, {0: ("cell", (0, 1)), 1: ("cell", (0, 0))})
        self.told(False, FIRST, 1, 2, {2: ("cell", (0, 0))})
        self.told(True, FIRST, 0, 2, {2: ("cell", (0, 0))})

    def test_no_order_meets_the_case(self):
        jam = find_jam((stacked("abc"), {(0, 0): "x"}, ()))
        for s, t in pairs(JAMMED):
            self.told(False, JAMMED, s, t, jam)
        self.told(True, JAMMED, 1, 0, {0: ("cell", (0, 1))})
        self.told(True, JAMMED, 1, 0, {0: ("cell", (0, 1)), 2: ("cell", (0, 0))})
        self.told(True, JAMMED, 2, 1, {1: ("cell", (0, 2))})
        self.told(False, JAMMED, 1, 2, {2: ("cell", (0, 0))})
        ring = (stacked("abcd"), {}, ((0, (1,)), (1, (0,))))
        for s in (2, 3):
            for t in (0, 1):
                self.told(True, ring, s, t, {0: ("saying", 0), 1: ("saying", 1)})
        self.told(False, ring, 2, 3, {0: ("saying", 0), 1: ("saying", 1)})

    def test_keys_of_other_kinds(self):
        self.told(False, CASE, 1, 2, {False: HELD[0], 2: HELD[2]})
        self.told(False, CASE, 1, 0, {False: HELD[0]})
        self.told(False, EITHER, 2, 0, {0: ("saying", 0), True: ("saying", 1)})
        self.told(False, EITHER, 2, 1, {0: ("saying", 0), True: ("saying", 1)})
        for key in (None, "0", (0,), (), True, "cell", (0, 0), 3, -1, 10, 10 ** 29):
            self.told(False, CASE, 1, 2, {**HELD, key: ("cell", (0, 0))})
            self.told(False, CASE, 1, 2, {key: HELD[0], 2: HELD[2]})

    def test_reasons_of_other_kinds(self):
        for reason in (("cell", [0, 1]), ["cell", (0, 1)], ("cell", (0, 1), 0), ("cell",), (), ("cell", 1), ("cell", (0,)),
                       ("cell", (False, 1)), ("cell", (0, True)), ("cell", (0, 1, 0)), ("cell", None), ("cell", ((0, 1),)),
                       ("Cell", (0, 1)), ("", (0, 1)), (None, (0, 1)), ((0, 1), "cell"), ("saying", (0, 1)), ("saying", 0),
                       "cell", (0, 1), None, True, 0, {"cell": (0, 1)}, ("cell", {}), ("cell", (0, 0)), ("cell", (0, 2)),
                       ("cell", (0, 3)), ("cell", (-1, 0))):
            for case in (CASE, JAMMED):
                self.told(False, case, 1, 2, {**HELD, 0: reason})
                self.told(False, case, 1, 0, {0: reason})
        for reason in (("saying", False), ("saying", "0"), ("saying", (0,)), ("saying", None), ("saying",), ("saying", 0, 0),
                       ["saying", 0], ("saying", [0]), ("Saying", 0), ("cell", 0), (0, "saying"), 0, ("saying", 1),
                       ("saying", -1), ("saying", 2), ("saying", 10 ** 29), ("saying", (0, (1, 2)))):
            self.told(False, EITHER, 2, 0, {0: reason, 1: ("saying", 1)})
        self.told(False, EITHER, 2, 0, {0: ("saying", 0), 1: ("saying", True)})

    def test_no_dict(self):
        for value in (list(HELD.items()), tuple(HELD.items()), [HELD], (HELD,), (0, 2), HELD[0], "02", 2, None):
            self.told(False, CASE, 1, 2, value)
            self.told(False, JAMMED, 1, 2, value)

    def test_any_value(self):
        for value in WRONG:
            for case in (CASE, JAMMED, FREE):
                for s, t in ((1, 2), (1, 0), (2, 0)):
                    self.told(False, case, s, t, value)
                    self.told(False, case, s, t, {**HELD, 0: value})
                    self.told(False, case, s, t, {t: value})
                    self.told(False, case, s, t, {t: ("cell", value)})
                    self.told(False, case, s, t, {t: ("saying", value)})
                    self.told(False, case, s, t, {t: (value, (0, 0))} if value != "cell" else value)
        self.told(False, JAMMED, 1, 2, {**HELD, 0: ("cell", (deep(12), deep(12)))})

    def test_all_reasons_of_some_sheets(self):
        tally = {}
        rng = random.Random(33)
        for case in some_cases(34, 260):
            order = bool(plain.all_orders(case))
            given = [("cell", cell) for cell in case[1]] + [("saying", i) for i in range(len(case[2]))]
            for among in plain.some_sheets(case, 3):
                rows = list(product(given, repeat=len(among)))
                for row in rng.sample(rows, min(len(rows), 4)):
                    value = dict(zip(among, row))
                    for s, t in rng.sample(pairs(case), min(4, len(pairs(case)))):
                        right = plain.held_holds(case, s, t, value)
                        tally[(order, right)] = tally.get((order, right), 0) + 1
                        self.told(right, case, s, t, value)
        self.assertGreater(min(tally.get((order, right), 0) for order in (False, True) for right in (False, True)), 40, tally)

    def test_right_values_and_values_changed_in_one_place(self):
        tally = [0, 0]
        rng = random.Random(35)
        for case in some_cases(36, 500):
            for s, t in pairs(case):
                held = find_held(case, s, t)
                if held is not None:
                    self.told(True, case, s, t, held)
                    value = changed_once(rng, held)
                    tally[plain.held_holds(case, s, t, value)] += 1
                    self.told(plain.held_holds(case, s, t, value), case, s, t, value)
                    for other, third in pairs(case):
                        self.told(plain.held_holds(case, other, third, held), case, other, third, held)
        self.assertGreater(min(tally), 80, tally)


class AboveTable(unittest.TestCase):
    def test_ordinary(self):
        self.assertEqual(call(self, above_table, CASE), [(0, 2), (1, 0), (1, 2)])
        self.assertEqual(call(self, above_table, FREE), [])
        self.assertEqual(call(self, above_table, FIRST), [(0, 2)])
        self.assertEqual(call(self, above_table, EITHER), [(2, 0), (2, 1)])
        self.assertEqual(call(self, above_table, (ONE, {(0, 0): "a"}, ())), [])
        self.assertEqual(call(self, above_table, (BOARD, {(7, 7): "z"}, ((2, (1,)),))), [(1, 0), (1, 2)])

    def test_ten_sheets(self):
        table = call(self, above_table, CHAIN)
        self.assertEqual(table, [(s, t) for s, t in pairs(CHAIN) if s == 9 or t in range(3, 9) and t < s])
        self.assertEqual(len(table), 9 + 15)

    def test_eleven_sheets_raise_nothing(self):
        case = (stacked("abcdefghijk"), {(0, 0): "k"}, ())
        self.assertEqual(above_table(case), [(10, s) for s in range(10)])
        self.assertEqual(find_above(case, 0, 9)[0], 10)
        self.assertEqual(len(find_held(case, 10, 3)), 10)

    def test_by_the_document(self):
        tally = {}
        for case in some_cases(37, 1000):
            orders = plain.all_orders(case)
            if orders:
                expected = [(s, t) for s, t in pairs(case) if all(plain.stands_ahead(order, s, t) for order in orders)]
                tally[len(expected)] = tally.get(len(expected), 0) + 1
                table = call(self, above_table, case)
                self.assertEqual(table, expected)
                self.assertIs(type(table), list)
                self.assertTrue(all(type(pair) is tuple for pair in table))
        self.assertGreater(min(tally.get(many, 0) for many in range(5)), 20, tally)


if __name__ == "__main__":
    unittest.main()
