import random
import unittest

from laidsheets.misread import fewest_misread, find_misread, find_values, shows
from laidsheets.orders import find_order, is_order
from tests import plain
from tests.calls import call
from tests.samples import BOARD, CASE, FREE, JAMMED, ONE, PILE, TEN, WRONG, changed_once, some_cases, stacked

RING = (PILE, {(0, 0): "b"}, ((0, (1,)), (1, (0,))))
VALUES = {(): 0, (0,): 1, (1,): 0, (2,): 1, (0, 1): 0, (0, 2): 1, (1, 2): 1, (0, 1, 2): 0}


class Found(unittest.TestCase):
    """Tests that tell the least number of misread cells, and look at the order and the values that show it."""

    def told(self, case, number):
        self.assertEqual(call(self, fewest_misread, case), number, case)
        order = call(self, find_misread, case)
        self.assertEqual(order is None, number is None)
        if number is not None:
            self.assertTrue(plain.meets((case[0], {}, case[2]), order))
            self.assertEqual(len(plain.misread_cells(case, order)), number)
        values = call(self, find_values, case)
        for least in range(65) if number is None else (0, number):
            self.assertIs(shows(case, values, least), True)
        self.assertIs(call(self, shows, case, values, number or 0), True)
        self.assertIs(call(self, shows, case, values, 10 ** 29), number is None)
        if number is not None:
            self.assertIs(call(self, shows, case, values, number + 1), False)


class Misread(Found):
    def test_ordinary(self):
        self.told(CASE, 0)
        self.told(JAMMED, 1)
        self.told(FREE, 0)
        self.told((PILE, {(0, 0): "c", (0, 1): "b", (0, 2): "b"}, ()), 0)
        self.told((PILE, {(0, 0): "x", (0, 1): "a", (0, 2): ""}, ()), 2)
        self.told((PILE, {(0, 0): "", (0, 1): "", (0, 2): ""}, ()), 3)

    def test_one_sheet(self):
        self.told((ONE, {}, ()), 0)
        self.told((ONE, {(0, 0): "a"}, ()), 0)
        self.told((ONE, {(0, 0): "bcd"}, ()), 1)
        self.told((ONE, {(0, 0): ""}, ()), 1)

    def test_sayings(self):
        self.told((PILE, {(0, 0): "a", (0, 1): "a"}, ((0, (1,)),)), 1)
        self.told((PILE, {(0, 0): "a", (0, 1): "a"}, ((0, (1,)), (1, (2,)))), 2)
        self.told((PILE, {}, ((0, (1, 2)), (1, (0, 2)))), 0)

    def test_no_order_is_let_by(self):
        self.told(RING, None)
        self.told((PILE, {}, ((0, (1,)), (1, (0,)))), None)
        self.told((PILE, {(0, 0): "a"}, ((0, (1,)), (1, (2,)), (2, (0,)))), None)

    def test_only_the_seen_letter_counts(self):
        self.told((stacked("aab"), {(0, 0): "b"}, ()), 0)
        self.told((stacked("aab"), {(0, 0): "b"}, ((2, (0,)),)), 1)
        self.told((BOARD, {(7, 7): "z", (0, 7): "a", (3, 4): "a", (0, 0): "b"}, ()), 1)
        self.told((BOARD, {(row, column): "" for row in range(8) for column in range(8)}, ()), 64)

    def test_by_the_document(self):
        tally = {}
        for number, case in enumerate(some_cases(91, 700)):
            rows = plain.let_by(case)
            least = min([len(plain.misread_cells(case, row)) for row in rows], default=None)
            self.told(case, least)
            if rows:
                self.assertIn(find_misread(case), rows)
                self.assertEqual(least == 0, find_order(case) is not None)
            if number % 3 == 0:
                values = find_values(case)
                self.assertTrue(plain.shows(case, values, least or 0))
                self.assertIs(plain.shows(case, values, 100), least is None)
            tally[least] = tally.get(least, 0) + 1
        self.assertGreater(min(tally[None], tally[0], tally[1], tally[2]), 20, tally)

    def test_ten_sheets(self):
        self.told((TEN, {}, ()), 0)
        self.told((stacked("abcdefghij"), {(0, 0): "k"}, ()), 1)
        self.told((stacked("abcdefghij"), {(0, 0): "j"}, tuple((s, (s - 1,)) for s in range(9, 3, -1))), 1)
        self.told((stacked("abcdefghij"), {}, tuple((s, ((s + 1) % 6,)) for s in range(6))), None)
        full = (8, 8, tuple((0, 0, tuple("abcdefghij"[s - row] * 8 for row in range(8))) for s in range(10)))
        self.told((full, {(row, column): "a" for row in range(8) for column in range(8)}, ()), 56)

    def test_large_boards(self):
        tally = {}
        for case in some_cases(92, 110, 10, 8):
            number = call(self, fewest_misread, case)
            self.told(case, number)
            self.assertEqual(number == 0, find_order(case) is not None)
            if number == 0:
                self.assertIs(is_order(case, find_misread(case)), True)
            tally[number] = tally.get(number, 0) + 1
        self.assertGreater(min(tally[0], tally[None], sum(tally.values()) - tally[0] - tally[None]), 2, tally)

    def test_eleven_sheets_raise_nothing(self):
        case = (stacked("abcdefghijk"), {(0, 0): "z"}, ())
        self.assertEqual(fewest_misread(case), 1)
        self.assertIs(shows(case, find_values(case), 1), True)


class Shows(unittest.TestCase):
    def told(self, expected, case, value, number):
        self.assertIs(call(self, shows, case, value, number), expected, repr((case, value))[:400])

    def test_ordinary(self):
        self.told(True, CASE, VALUES, 0)
        self.told(False, CASE, VALUES, 1)
        self.told(True, (ONE, {(0, 0): "b"}, ()), {(): 0, (0,): 1}, 1)
        self.told(False, (ONE, {(0, 0): "a"}, ()), {(): 0, (0,): 1}, 1)

    def test_the_empty_set_has_0(self):
        self.told(False, CASE, {**VALUES, (): 1}, 0)
        self.told(False, CASE, {some: VALUES[some] for some in VALUES if some != ()}, 0)
        self.told(False, RING, {}, 0)
        self.told(False, (ONE, {(0, 0): "b"}, ()), {(): 1, (0,): 1}, 1)

    def test_each_step_leads_to_a_set_with_no_more_than_its_cost(self):
        for some in VALUES:
            self.told(False, CASE, {key: VALUES[key] for key in VALUES if key != some}, 0)
            for number in range(4):
                value = {**VALUES, some: number}
                self.told(plain.shows(CASE, value, 0), CASE, value, 0)
        for some in ((1,), (0, 1), (0, 1, 2)):
            self.told(False, CASE, {**VALUES, some: 1}, 0)
        for some in ((0,), (2,)):
            self.told(False, CASE, {**VALUES, some: 2}, 0)
        case = (ONE, {(0, 0): "b"}, ())
        self.told(False, case, {(): 0}, 0)
        self.told(False, case, {(): 0, (0,): 2}, 1)
        self.told(False, case, {(): 0, (0,): 0}, 1)
        self.told(True, case, {(): 0, (0,): 0}, 0)

    def test_sets_that_no_step_leads_to(self):
        self.told(True, RING, {(): 0, (2,): 1}, 10 ** 29)
        self.told(False, RING, {(): 0, (2,): 1, (1,): 7}, 0)
        self.told(True, RING, {(): 0, (2,): 1, (1,): 7, (0, 1): 7, (1, 2): 7, (0, 1, 2): 7}, 7)
        self.told(False, RING, {(): 0, (2,): 1, (1,): 7, (0, 1): 7, (1, 2): 7, (0, 1, 2): 6}, 7)
        self.told(True, RING, {(): 0, (2,): 1, (0, 1, 2): 7}, 7)
        self.told(False, RING, {(): 0, (2,): 1, (0, 1, 2): 6}, 7)

    def test_numbers_below_0_and_other_kinds(self):
        for wrong in (-1, -(10 ** 29), False, None, "0", (0,), [0], {}, ()):
            self.told(False, CASE, {**VALUES, (1,): wrong}, 0)
            self.told(False, CASE, {**VALUES, (): wrong}, 0)
            self.told(False, CASE, {**VALUES, (0, 1, 2): wrong}, 0)
            self.told(False, RING, {(): 0, (2,): 1, (0, 1, 2): wrong}, 0)
            self.told(False, RING, {(): 0, (2,): wrong}, 0)
        self.told(False, JAMMED, {**VALUES, (0, 1, 2): True}, 1)
        self.told(False, RING, {(): 0, (2,): True}, 1)

    def test_keys_that_are_no_sets(self):
        for key in ((1, 0), (0, 0), (2, 1), (0, 2, 1), (0, 1, 1), (3,), (-1,), (0, 3), (0, 1, 2, 3), (None,), ("0",), ((0,),),
                    0, 1, None, "", "01", True, ((),), (0, None), (10 ** 29,), (-1, 0), (0, (1,))):
            self.told(False, CASE, {**VALUES, key: 0}, 0)
            self.told(False, RING, {(): 0, (2,): 1, key: 0}, 0)

    def test_truths_in_keys(self):
        for some in VALUES:
            for at in range(len(some)):
                if some[at] < 2:
                    key = some[:at] + (bool(some[at]),) + some[at + 1:]
                    value = {(key if other == some else other): VALUES[other] for other in VALUES}
                    self.told(False, CASE, value, 0)
        self.told(False, (ONE, {}, ()), {(): 0, (False,): 0}, 0)

    def test_no_dict(self):
        for value in (list(VALUES.items()), tuple(VALUES.items()), list(VALUES), [VALUES], (), [], "", None, 0, True, (VALUES,)):
            self.told(False, CASE, value, 0)

    def test_any_value(self):
        for value in WRONG:
            for case in (CASE, RING, JAMMED):
                self.told(False, case, value, 0)
                self.told(False, case, {(): 0, (0,): value}, 0)
                self.told(False, case, {**VALUES, (0, 1, 2): value} if repr(value) not in ("0", "1") else value, 0)
                self.told(False, case, {(): value, (2,): value} if repr(value) != "0" else value, 0)

    def test_changed_in_one_place(self):
        tally = [0, 0]
        rng = random.Random(93)
        for case in some_cases(94, 500, 4):
            values = find_values(case)
            number = fewest_misread(case) or 0
            for _ in range(5):
                value = changed_once(rng, values)
                tally[plain.shows(case, value, number)] += 1
                self.told(plain.shows(case, value, number), case, value, number)
        self.assertGreater(min(tally), 80, tally)

    def test_other_values_that_show_it(self):
        tally = [0, 0]
        rng = random.Random(95)
        for case in some_cases(96, 500, 4):
            values = find_values(case)
            number = fewest_misread(case) or 0
            for _ in range(3):
                value = {some: max(0, values[some] - (rng.random() < 0.3)) for some in values}
                for some in plain.some_sheets(case, 4):
                    if rng.random() < 0.1:
                        value.setdefault(some, rng.randint(0, 3))
                for least in (number, max(0, number - 1)):
                    tally[plain.shows(case, value, least)] += 1
                    self.told(plain.shows(case, value, least), case, value, least)
        self.assertGreater(min(tally), 100, tally)


if __name__ == "__main__":
    unittest.main()
