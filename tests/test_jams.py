import random
import unittest
from itertools import combinations, product

from laidsheets.jams import find_jam, is_jam, taken
from laidsheets.orders import find_order
from tests import plain
from tests.calls import call
from tests.samples import BOARD, CASE, JAMMED, ONE, PILE, WRONG, changed_once, deep, some_cases

JAM = {0: ("cell", (0, 1)), 1: ("cell", (0, 2)), 2: ("cell", (0, 0))}
RING = (PILE, {}, ((0, (1,)), (1, (0, 2)), (2, (0, 1)), (0, (1, 2))))
BOTH = (PILE, {(0, 0): "a", (0, 2): "c"}, ((0, (2,)), (2, (0,))))


class Taken(unittest.TestCase):
    def told(self, case, expected):
        self.assertEqual(call(self, taken, case), expected)

    def test_ordinary(self):
        self.told(CASE, (0, 1, 2))
        self.told(JAMMED, ())
        self.told((PILE, {}, ()), (0, 1, 2))
        self.told((ONE, {}, ()), (0,))
        self.told((ONE, {(0, 0): "b"}, ()), ())

    def test_some_but_not_all(self):
        self.told((PILE, {(0, 0): "x"}, ()), (1,))
        self.told((PILE, {(0, 1): ""}, ()), (2,))
        self.told((PILE, {}, ((1, (2,)), (2, (1,)))), (0,))
        self.told((PILE, {(0, 0): "a"}, ((0, (2,)),)), (1,))
        self.told(RING, ())

    def test_a_sheet_below_is_taken_when_those_above_it_are(self):
        self.told((PILE, {(0, 1): "b", (0, 0): "c"}, ((2, (0,)),)), (1,))
        self.told((PILE, {(0, 1): "b", (0, 0): "c"}, ((2, (1,)),)), (0, 1, 2))
        self.told((PILE, {}, ((0, (1, 2)), (1, (0, 2)))), (0, 1, 2))

    def test_by_the_document(self):
        tally = {}
        for case in some_cases(21, 1200):
            found = plain.all_taken(case)
            self.told(case, found)
            kind = "all" if len(found) == len(case[0][2]) else "some" if found else "none"
            tally[kind] = tally.get(kind, 0) + 1
        self.assertGreater(min(tally["all"], tally["some"], tally["none"]), 80, tally)


class FindJam(unittest.TestCase):
    def test_no_jam_where_there_is_an_order(self):
        for case in (CASE, (PILE, {}, ()), (ONE, {}, ()), (ONE, {(0, 0): "ab"}, ()), (BOARD, {(7, 7): "z"}, ((2, (1,)),))):
            self.assertIsNone(call(self, find_jam, case))

    def test_the_only_jam(self):
        self.assertEqual(call(self, find_jam, JAMMED), JAM)
        self.assertEqual(call(self, find_jam, (ONE, {(0, 0): ""}, ())), {0: ("cell", (0, 0))})
        self.assertEqual(call(self, find_jam, (BOARD, {(7, 7): "b"}, ((0, (1,)),)))[1], ("cell", (7, 7)))

    def test_sayings(self):
        case = (PILE, {}, ((2, (0,)), (1, (0,)), (0, (1,))))
        jam = call(self, find_jam, case)
        self.assertTrue(plain.jam_holds(case, jam))
        self.assertEqual((jam[0], jam[1]), (("saying", 2), ("saying", 1)))

    def test_just_one_of_an_order_and_a_jam(self):
        tally = [0, 0]
        for case in some_cases(22, 1500):
            jam = call(self, find_jam, case)
            orders = plain.all_orders(case)
            self.assertEqual(jam is None, bool(orders))
            self.assertEqual(jam is None, find_order(case) is not None)
            self.assertEqual(jam is not None, plain.some_jam(case))
            tally[bool(orders)] += 1
            if jam is not None:
                self.assertTrue(plain.jam_holds(case, jam))
                self.assertIs(is_jam(case, jam), True)
        self.assertGreater(min(tally), 250)

    def test_ten_sheets(self):
        pile = (1, 1, tuple((0, 0, (letter,)) for letter in "abcdefghij"))
        jam = call(self, find_jam, (pile, {(0, 0): "k"}, ()))
        self.assertEqual(jam, {s: ("cell", (0, 0)) for s in range(10)})
        ring = tuple((s, ((s + 1) % 6,)) for s in range(6))
        self.assertEqual(call(self, find_jam, (pile, {}, ring)), {s: ("saying", s) for s in range(6)})
        self.assertEqual(call(self, taken, (pile, {}, ring)), (6, 7, 8, 9))

    def test_eleven_sheets_raise_nothing(self):
        pile = (1, 1, tuple((0, 0, (letter,)) for letter in "abcdefghijk"))
        self.assertEqual(len(find_jam((pile, {(0, 0): "z"}, ()))), 11)
        self.assertEqual(taken((pile, {(0, 0): "k"}, ((0, (1,)),) * 7)), tuple(range(11)))


class IsJam(unittest.TestCase):
    def told(self, expected, case, value):
        self.assertIs(call(self, is_jam, case, value), expected, repr((case, value))[:400])

    def test_readings(self):
        self.told(True, JAMMED, JAM)
        self.told(False, CASE, JAM)
        for s in range(3):
            self.told(False, JAMMED, {key: JAM[key] for key in JAM if key != s})

    def test_a_cell_where_the_letter_fits(self):
        self.told(False, JAMMED, {**JAM, 0: ("cell", (0, 0))})
        self.told(False, JAMMED, {**JAM, 1: ("cell", (0, 1))})

    def test_a_cell_that_the_sheet_does_not_cover(self):
        self.told(False, JAMMED, {**JAM, 0: ("cell", (0, 2))})
        self.told(False, JAMMED, {**JAM, 2: ("cell", (0, 1))})

    def test_a_cell_that_was_not_read_or_is_not_there(self):
        self.told(False, (PILE, {(0, 0): "a", (0, 2): "c"}, ()), JAM)
        for cell in ((0, 3), (-1, 0), (1, 0), (8, 8), (0, -1)):
            self.told(False, JAMMED, {**JAM, 0: ("cell", cell)})

    def test_a_cell_that_a_further_sheet_covers(self):
        case = (PILE, {(0, 0): "x", (0, 2): "x"}, ())
        self.told(True, case, {0: ("cell", (0, 0)), 2: ("cell", (0, 0))})
        self.told(True, case, {1: ("cell", (0, 2)), 2: ("cell", (0, 2))})
        self.told(False, case, {0: ("cell", (0, 0))})
        self.told(False, case, {0: ("cell", (0, 0)), 1: ("cell", (0, 2))})
        self.told(True, case, {0: ("cell", (0, 0)), 1: ("cell", (0, 2)), 2: ("cell", (0, 2))})

    def test_sayings(self):
        self.told(True, RING, {0: ("saying", 0), 1: ("saying", 1), 2: ("saying", 2)})
        self.told(True, RING, {0: ("saying", 3), 1: ("saying", 1), 2: ("saying", 2)})
        self.told(False, RING, {0: ("saying", 0), 1: ("saying", 1)})
        self.told(False, RING, {0: ("saying", 1), 1: ("saying", 1), 2: ("saying", 2)})
        for i in (-1, -4, 4, 5, 6, 10 ** 29):
            self.told(False, RING, {0: ("saying", i), 1: ("saying", 1), 2: ("saying", 2)})

    def test_both(self):
        self.told(True, BOTH, {0: ("saying", 0), 2: ("saying", 1)})
        self.told(True, BOTH, {0: ("saying", 0), 2: ("cell", (0, 0))})
        self.told(True, BOTH, {0: ("saying", 0), 1: ("cell", (0, 2)), 2: ("cell", (0, 0))})
        self.told(False, BOTH, {0: ("saying", 0), 1: ("cell", (0, 2))})
        self.told(False, BOTH, {0: ("saying", 1), 2: ("saying", 1)})

    def test_one_sheet(self):
        self.told(True, (ONE, {(0, 0): ""}, ()), {0: ("cell", (0, 0))})
        self.told(False, (ONE, {(0, 0): "a"}, ()), {0: ("cell", (0, 0))})
        self.told(False, (ONE, {}, ()), {0: ("cell", (0, 0))})

    def test_no_sheet(self):
        for case in (CASE, JAMMED, RING, (ONE, {(0, 0): ""}, ())):
            self.told(False, case, {})

    def test_sheets_that_there_are_not(self):
        for s in (3, -1, 10, 10 ** 29):
            self.told(False, JAMMED, {**JAM, s: ("cell", (0, 0))})
            self.told(False, JAMMED, {s: ("cell", (0, 0))})

    def test_keys_of_other_kinds(self):
        self.told(False, JAMMED, {False: JAM[0], 1: JAM[1], 2: JAM[2]})
        self.told(False, JAMMED, {0: JAM[0], True: JAM[1], 2: JAM[2]})
        self.told(False, (ONE, {(0, 0): ""}, ()), {False: ("cell", (0, 0))})
        for key in (None, "0", (0,), (), True, "cell", (0, 0)):
            self.told(False, JAMMED, {**{s: JAM[s] for s in (0, 2)}, key: JAM[1]})

    def test_reasons_of_other_kinds(self):
        for reason in (("cell", [0, 1]), ["cell", (0, 1)], ("cell", (0, 1), 0), ("cell",), (), ("cell", 1), ("cell", (0,)),
                       ("cell", (False, 1)), ("cell", (0, True)), ("cell", (0, 1, 0)), ("cell", None), ("cell", ((0, 1),)),
                       ("Cell", (0, 1)), ("", (0, 1)), (None, (0, 1)), ((0, 1), "cell"), ("saying", (0, 1)), ("saying", 0),
                       "cell", (0, 1), None, True, 0, {"cell": (0, 1)}, ("cell", {}), ("cell", ("0", "1"))):
            self.told(False, JAMMED, {**JAM, 0: reason})
        ring = {0: ("saying", 0), 1: ("saying", 1), 2: ("saying", 2)}
        for reason in (("saying", False), ("saying", "0"), ("saying", (0,)), ("saying", None), ("saying",), ("saying", 0, 0),
                       ["saying", 0], ("saying", [0]), ("Saying", 0), ("cell", 0), (0, "saying"), 0, ("saying", (0, (1,)))):
            self.told(False, RING, {**ring, 0: reason})
        self.told(False, RING, {**ring, 1: ("saying", True)})

    def test_no_dict(self):
        for value in (list(JAM.items()), tuple(JAM.items()), [JAM], (JAM,), (0, 1, 2), JAM[0]):
            self.told(False, JAMMED, value)

    def test_any_value(self):
        for value in WRONG:
            for case in (CASE, JAMMED, RING):
                self.told(False, case, value)
                self.told(False, case, {0: value, 1: JAM[1], 2: JAM[2]})
                self.told(False, case, {**JAM, 0: ("cell", value)})
                self.told(False, case, {**JAM, 0: (value, (0, 1))} if value != "cell" else value)
                self.told(False, case, {0: value, 1: value, 2: value})
        self.told(False, JAMMED, {**JAM, 0: ("cell", (deep(12), deep(12)))})

    def test_all_reasons_of_some_sheets(self):
        tally = [0, 0]
        rng = random.Random(23)
        for case in some_cases(24, 250, 4):
            pile, view, sayings = case
            sheets = range(len(pile[2]))
            given = [("cell", cell) for cell in view] + [("saying", i) for i in range(len(sayings))]
            for many in range(1, min(3, len(sheets)) + 1):
                for among in combinations(sheets, many):
                    rows = list(product(given, repeat=many))
                    for row in rng.sample(rows, min(len(rows), 12)):
                        value = dict(zip(among, row))
                        tally[plain.jam_holds(case, value)] += 1
                        self.told(plain.jam_holds(case, value), case, value)
        self.assertGreater(min(tally), 100, tally)

    def test_right_values_and_values_changed_in_one_place(self):
        tally = [0, 0]
        rng = random.Random(25)
        for case in some_cases(26, 1200):
            jam = find_jam(case)
            if jam is not None:
                self.told(True, case, jam)
                for _ in range(6):
                    value = changed_once(rng, jam)
                    tally[plain.jam_holds(case, value)] += 1
                    self.told(plain.jam_holds(case, value), case, value)
        self.assertGreater(min(tally), 100, tally)


if __name__ == "__main__":
    unittest.main()
