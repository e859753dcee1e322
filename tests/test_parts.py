import random
import unittest
from itertools import permutations

from laidsheets.jams import find_jam, taken
from laidsheets.orders import find_order
from laidsheets.parts import find_part, find_part_jam, is_part, is_part_jam
from tests import plain
from tests.calls import call
from tests.samples import (BOARD, CASE, FIRST, FREE, JAMMED, ONE, PILE, TEN, WRONG, changed_once, some_cases, stacked)

JAM = {0: ("cell", (0, 1)), 1: ("cell", (0, 2)), 2: ("cell", (0, 0))}
STUCK = (PILE, {}, ((0, (1,)), (1, (0,))))
RING = (PILE, {}, ((0, (1,)), (1, (2,)), (2, (0,))))
NO_C = (PILE, {(0, 0): "a"}, ((2, (1,)), (1, (2,))))


class FindPart(unittest.TestCase):
    def told(self, case, many):
        """Tests that a part order of so many sheets is found, or with None that a part jam is."""
        part = call(self, find_part, case)
        jam = call(self, find_part_jam, case)
        self.assertEqual(part is None, many is None, case)
        self.assertEqual(jam is None, many is not None, case)
        if many is None:
            self.assertIs(type(jam), tuple)
            self.assertTrue(plain.part_jam_holds(case, jam), (case, jam))
            self.assertIs(call(self, is_part_jam, case, jam), True)
        else:
            self.assertEqual(len(part), many)
            self.assertTrue(plain.part_holds(case, part), (case, part))
            self.assertIs(call(self, is_part, case, part), True)

    def test_all_sheets(self):
        for case in (CASE, FREE, FIRST, (PILE, {(0, 0): "a"}, ((0, (1,)),)), (PILE, {(0, 2): "bc"}, ((2, (0, 1)),))):
            self.told(case, 3)
        self.told((ONE, {}, ()), 1)
        self.told((ONE, {(0, 0): "a"}, ()), 1)
        self.assertEqual(find_part(CASE), (1, 0, 2))

    def test_some_sheets(self):
        self.told((PILE, {}, ((1, (2,)), (2, (1,)))), 1)
        self.assertEqual(find_part((PILE, {}, ((1, (2,)), (2, (1,))))), (0,))
        self.told((PILE, {(0, 0): "a"}, ((1, (2,)), (2, (1,)))), 1)
        self.told((PILE, {(0, 0): "a", (0, 1): "a"}, ((1, (2,)), (2, (1,)))), 1)

    def test_no_sheet(self):
        self.told(RING, 0)
        self.assertEqual(find_part(RING), ())
        self.told((PILE, {(0, 0): "a"}, RING[2]), None)

    def test_a_sheet_was_laid_only_if_one_that_it_lies_under_was(self):
        self.told((stacked("abc"), {}, ((0, (1,)), (1, (2,)), (2, (1,)))), 0)
        self.told((stacked("abc"), {}, ((0, (1, 2)), (1, (0,)))), 3)
        self.told((stacked("abc"), {(0, 0): "a"}, ((0, (1,)), (1, (0,)))), None)

    def test_no_part_order(self):
        self.told(JAMMED, None)
        self.assertEqual(find_part_jam(JAMMED)[1], JAM)
        self.told((ONE, {(0, 0): "b"}, ()), None)
        self.told((ONE, {(0, 0): ""}, ()), None)
        self.assertEqual(find_part_jam((ONE, {(0, 0): ""}, ())), ((0, 0), {0: ("cell", (0, 0))}))
        self.told((PILE, {(0, 1): "", (0, 0): "abc"}, ()), None)
        self.told((PILE, {(0, 1): "b"}, ((0, (1,)), (1, (0,)))), None)
        self.told(STUCK, 1)
        self.told((BOARD, {(7, 7): "b"}, ()), None)

    def test_just_the_sheets_that_can_be_taken_off(self):
        for case in some_cases(81, 200):
            part = find_part(case)
            if part is not None:
                self.assertEqual(tuple(sorted(part)), taken(case))
            if find_order(case) is not None:
                self.assertEqual(len(part), len(case[0][2]))

    def test_by_the_document(self):
        tally = {}
        for case in some_cases(82, 1000):
            parts = plain.all_parts(case)
            most = max(map(len, parts)) if parts else None
            self.told(case, most)
            self.assertIn(find_part(case), parts or [None])
            kind = "none" if most is None else "all" if most == len(case[0][2]) else "some"
            tally[kind] = tally.get(kind, 0) + 1
        self.assertGreater(min(tally["all"], tally["some"], tally["none"]), 30, tally)

    def test_ten_sheets(self):
        self.told((TEN, {}, ()), 10)
        self.told((stacked("abcdefghij"), {(0, 0): "k"}, ()), None)
        self.told((stacked("abcdefghij"), {(0, 0): "j"}, tuple((s, (s + 1,)) for s in range(4, 9))), 10)
        self.told((stacked("abcdefghij"), {}, tuple((s, ((s + 1) % 6,)) for s in range(6))), 4)
        tally = [0, 0]
        for case in some_cases(83, 150, 10, 8):
            part = call(self, find_part, case)
            tally[part is None] += 1
            self.told(case, None if part is None else len(part))
        self.assertGreater(min(tally), 30, tally)

    def test_eleven_sheets_raise_nothing(self):
        case = (stacked("abcdefghijk"), {(0, 0): "k"}, ())
        self.assertEqual(find_part(case)[0], 10)
        self.assertEqual(len(find_part_jam((case[0], {(0, 0): "z"}, ()))[1]), 11)


class IsPart(unittest.TestCase):
    def told(self, expected, case, value):
        self.assertIs(call(self, is_part, case, value), expected, repr((case, value))[:400])

    def right(self, case, parts):
        """Tests that of all rows just these are part orders."""
        for many in range(len(case[0][2]) + 1):
            for row in permutations(range(len(case[0][2])), many):
                self.told(row in parts, case, row)

    def test_each_cell_of_the_view_is_covered(self):
        self.right((PILE, {(0, 2): "c"}, ()), [(2,), (2, 0), (0, 2), (2, 1), (0, 2, 1), (2, 0, 1), (2, 1, 0)])
        self.right((ONE, {(0, 0): "a"}, ()), [(0,)])
        self.right((ONE, {}, ()), [(), (0,)])
        self.right((ONE, {(0, 0): ""}, ()), [])

    def test_sayings_about_sheets_that_were_laid(self):
        self.right((PILE, {(0, 1): "ab"}, ((0, (2,)), (2, (0, 1)))), [(1,), (1, 2), (1, 2, 0)])
        self.right(STUCK, [(), (2,)])

    def test_jammed(self):
        self.right(JAMMED, [])

    def test_numbers(self):
        for s in (3, -1, 10, 10 ** 29):
            self.told(False, FREE, (s,))
            self.told(False, FREE, (0, 1, s))
        self.told(False, CASE, (1, 0, 2, 2))
        for value in ((0, 0), (1, 1, 0), (0, 1, 0), (2, 1, 0, 2), (0,) * 40000):
            self.told(False, FREE, value)

    def test_other_kinds(self):
        for value in ((True, 0, 2), (1, False, 2), (1, False), (True,), (1, 0, "2"), (1, 0, None), (1, 0, (2,)), (1, 0, [2]),
                      [1, 0, 2], [1, 0], [], {}, "", "102", {1: 0, 0: 1, 2: 2}, ((1, 0, 2),), (1, 0, {}), None, False, 0):
            self.told(False, CASE, value)
            if value != (1, False) and value != (True,):
                self.told(False, FREE, value)
        self.told(False, FREE, (True,))
        self.told(False, FREE, (1, False))

    def test_any_value(self):
        for value in WRONG:
            for case in (CASE, FREE, RING):
                right = plain.part_holds(case, value) if repr(value) in ("()", "(0,)", "(1, 2)", "(0, 1, 2)") else False
                self.told(right, case, value)
                if repr(value) not in ("0", "1"):
                    self.told(False, case, (value,))
                    self.told(False, case, (1, 0, value))

    def test_changed_in_one_place(self):
        tally = [0, 0]
        rng = random.Random(84)
        for case in some_cases(85, 900):
            part = find_part(case)
            if part is not None:
                for _ in range(4):
                    value = changed_once(rng, part)
                    tally[plain.part_holds(case, value)] += 1
                    self.told(plain.part_holds(case, value), case, value)
        self.assertGreater(min(tally), 100, tally)

    def test_rows_of_some_sheets(self):
        tally = [0, 0]
        rng = random.Random(86)
        for case in some_cases(87, 500):
            sheets = range(len(case[0][2]))
            for _ in range(5):
                row = tuple(rng.sample(sheets, rng.randint(0, len(sheets))))
                tally[plain.part_holds(case, row)] += 1
                self.told(plain.part_holds(case, row), case, row)
        self.assertGreater(min(tally), 300, tally)


class IsPartJam(unittest.TestCase):
    def told(self, expected, case, value):
        self.assertIs(call(self, is_part_jam, case, value), expected, repr((case, value))[:400])

    def test_ordinary(self):
        for cell in ((0, 0), (0, 1), (0, 2)):
            self.told(True, JAMMED, (cell, JAM))
        self.told(False, CASE, ((0, 0), JAM))
        self.told(True, (ONE, {(0, 0): "z"}, ()), ((0, 0), {0: ("cell", (0, 0))}))
        self.told(False, (ONE, {(0, 0): "a"}, ()), ((0, 0), {0: ("cell", (0, 0))}))

    def test_a_cell_of_the_view(self):
        for cell in ((0, 3), (1, 0), (-1, 0), (8, 8)):
            self.told(False, JAMMED, (cell, JAM))
        case = (PILE, {(0, 0): "x"}, ())
        jam = {0: ("cell", (0, 0)), 2: ("cell", (0, 0))}
        self.told(True, case, ((0, 0), jam))
        self.told(False, case, ((0, 1), jam))
        self.told(False, case, ((0, 2), jam))

    def test_all_sheets_that_cover_the_cell(self):
        case = (PILE, {(0, 0): "ac", (0, 1): "ab", (0, 2): "bc"}, ((0, (1,)), (1, (0,))))
        jam = {0: ("saying", 0), 1: ("saying", 1)}
        self.assertEqual(find_jam(case), jam)
        self.told(True, case, ((0, 1), jam))
        self.told(False, case, ((0, 0), jam))
        self.told(False, case, ((0, 2), jam))

    def test_the_jam_is_one(self):
        for s in range(3):
            self.told(False, JAMMED, ((0, 1), {key: JAM[key] for key in JAM if key != s}))
        self.told(False, JAMMED, ((0, 1), {**JAM, 0: ("cell", (0, 0))}))
        self.told(False, JAMMED, ((0, 1), {**JAM, 3: ("cell", (0, 0))}))
        self.told(False, JAMMED, ((0, 1), {False: JAM[0], 1: JAM[1], 2: JAM[2]}))
        for jam in ({}, None, [], JAM[0], list(JAM.items()), tuple(JAM.items()), 0, "cell"):
            self.told(False, JAMMED, ((0, 1), jam))
            self.told(False, CASE, ((0, 1), jam))

    def test_other_kinds(self):
        for value in (((False, 1), JAM), ((0, True), JAM), ([0, 1], JAM), (1, JAM), (None, JAM), ((0, 1, 0), JAM), ((), JAM),
                      ((0,), JAM), ("01", JAM), ({}, JAM), (((0, 1),), JAM), ((0, [1]), JAM), [(0, 1), JAM], ((0, 1),),
                      ((0, 1), JAM, JAM), ((0, 1), JAM, ()), (JAM, (0, 1)), JAM, {(0, 1): JAM}, (), ((0, 1), [JAM])):
            self.told(False, JAMMED, value)

    def test_any_value(self):
        for value in WRONG:
            for case in (CASE, JAMMED, RING):
                self.told(False, case, value)
                self.told(False, case, (value, JAM))
                self.told(False, case, ((0, 0), value))
                self.told(False, case, (value, value))
                self.told(False, case, ((value, 0), JAM) if repr(value) != "0" else ())

    def test_changed_in_one_place(self):
        tally = [0, 0]
        rng = random.Random(88)
        for case in some_cases(89, 900):
            jam = find_part_jam(case)
            if jam is not None:
                self.told(True, case, jam)
                for _ in range(6):
                    value = changed_once(rng, jam)
                    tally[plain.part_jam_holds(case, value)] += 1
                    self.told(plain.part_jam_holds(case, value), case, value)
                for cell in plain.covered_cells(case[0]):
                    value = (cell, jam[1])
                    tally[plain.part_jam_holds(case, value)] += 1
                    self.told(plain.part_jam_holds(case, value), case, value)
        self.assertGreater(min(tally), 100, tally)


if __name__ == "__main__":
    unittest.main()
