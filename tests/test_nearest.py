import random
import unittest
from itertools import permutations

from laidsheets.nearest import farthest, find_near_values, nearest, shows_near
from laidsheets.orders import find_order, is_order
from laidsheets.ways import distance
from tests import plain, plain_movers
from tests.calls import call
from tests.plain_books import all_sets, met_cases
from tests.samples import CASE, EITHER, FIRST, FREE, ONE, PILE, TEN, WRONG, changed_once, some_cases, stacked

STACK = stacked("abcdefghij")
VALUES = {(): 0, (1,): 1, (0, 1): 1, (0, 1, 2): 1}


class Found(unittest.TestCase):
    def test_ordinary(self):
        self.assertEqual(call(self, nearest, FIRST, (2, 1, 0)), ((0, 2, 1), 2))
        self.assertEqual(call(self, farthest, FIRST, (2, 1, 0)), ((0, 1, 2), 3))
        self.assertEqual(call(self, nearest, CASE, (0, 1, 2)), ((1, 0, 2), 1))
        self.assertEqual(call(self, farthest, CASE, (0, 1, 2)), ((1, 0, 2), 1))
        self.assertEqual(call(self, nearest, EITHER, (0, 1, 2)), ((2, 0, 1), 2))
        self.assertEqual(call(self, farthest, EITHER, (0, 1, 2)), ((2, 1, 0), 3))

    def test_one_sheet(self):
        for view in ({}, {(0, 0): "a"}):
            case = (ONE, view, ())
            self.assertEqual(call(self, nearest, case, (0,)), ((0,), 0))
            self.assertEqual(call(self, farthest, case, (0,)), ((0,), 0))
            self.assertIs(shows_near(case, (0,), call(self, find_near_values, case, (0,)), 0), True)

    def test_a_row_that_is_itself_an_order(self):
        for order in plain.all_orders(FIRST):
            self.assertEqual(call(self, nearest, FIRST, order), (order, 0))
            self.assertIs(shows_near(FIRST, order, find_near_values(FIRST, order), 0), True)
        for row in permutations(range(3)):
            self.assertEqual(nearest(FREE, row), (row, 0))
            self.assertEqual(farthest(FREE, row), (row[::-1], 3))

    def test_the_least_of_several(self):
        # (0, 2, 1) and (1, 0, 2) are as near to the first row, and as far from the second one.
        self.assertEqual(call(self, nearest, FIRST, (2, 1, 0)), ((0, 2, 1), 2))
        self.assertEqual(call(self, farthest, FIRST, (0, 1, 2)), ((0, 2, 1), 1))
        # From both ends of the rows: each of 1 and 2 can go ahead of 0, and each of 3 and 4 behind it.
        case = (stacked("abcde"), {}, ((0, (1, 2)), (3, (0,)), (4, (0,))))
        self.assertEqual(plain_movers.nearest(plain.all_orders(case), (3, 4, 0, 2, 1)), ((2, 0, 3, 4, 1), 5))
        self.assertEqual(call(self, nearest, case, (3, 4, 0, 2, 1)), ((2, 0, 3, 4, 1), 5))

    def test_by_the_document(self):
        tally = {"several": 0, 0: 0, 1: 0, 2: 0, 3: 0}
        rng = random.Random(251)
        for case, orders in met_cases(252, 400):
            count = len(case[0][2])
            for row in [tuple(rng.sample(range(count), count)) for _ in range(3)]:
                order, number = call(self, nearest, case, row)
                self.assertEqual((order, number), plain_movers.nearest(orders, row), (case, row))
                self.assertEqual(call(self, farthest, case, row), plain_movers.farthest(orders, row), (case, row))
                values = call(self, find_near_values, case, row)
                self.assertTrue(plain_movers.shows_near(case, row, values, number), (case, row, values))
                for some in (number, number + 1, 0):
                    self.assertIs(call(self, shows_near, case, row, values, some), some <= number)
                tally["several"] += sum(distance(one, row) == number for one in orders) > 1
                tally[number] = tally.get(number, 0) + 1
        self.assertGreater(min(tally[key] for key in ("several", 0, 1, 2, 3)), 20, tally)

    def test_ten_sheets(self):
        rng = random.Random(255)
        for pile in (TEN, STACK):
            row = tuple(rng.sample(range(10), 10))
            self.assertEqual(call(self, nearest, (pile, {}, ()), row), (row, 0))
            self.assertEqual(call(self, farthest, (pile, {}, ()), row), (row[::-1], 45))
            values = call(self, find_near_values, (pile, {}, ()), row)
            self.assertEqual(sorted(values), sorted(all_sets(10)))
            self.assertIs(call(self, shows_near, (pile, {}, ()), row, values, 0), True)
            self.assertIs(call(self, shows_near, (pile, {}, ()), row, values, 1), False)
        case = (STACK, {(0, 0): "j"}, ((0, (1,)), (3, (2, 4))))
        self.assertEqual(call(self, nearest, case, tuple(range(10))), ((9, 1, 0, 2, 3, 4, 5, 6, 7, 8), 10))
        tally = {}
        for case in some_cases(256, 80, 10, 8):
            if find_order(case) is not None:
                count = len(case[0][2])
                row = tuple(rng.sample(range(count), count))
                for order, number in (call(self, nearest, case, row), call(self, farthest, case, row)):
                    self.assertIs(is_order(case, order), True)
                    self.assertEqual(distance(order, row), number)
                    self.assertGreaterEqual(number, nearest(case, row)[1])
                number = nearest(case, row)[1]
                values = call(self, find_near_values, case, row)
                self.assertIs(call(self, shows_near, case, row, values, number), True)
                self.assertIs(call(self, shows_near, case, row, values, number + 1), False)
                turned = nearest(case, row[::-1])[1]
                self.assertEqual(farthest(case, row)[1], count * (count - 1) // 2 - turned)
                tally[number > 0] = tally.get(number > 0, 0) + 1
        self.assertGreater(tally[True], 25, tally)

    def test_eleven_sheets_raise_nothing(self):
        case = (stacked("abcdefghijk"), {(0, 0): "k"}, ())
        row = tuple(range(11))
        self.assertEqual(nearest(case, row), ((10,) + row[:10], 10))
        self.assertEqual(farthest(case, row), (row[::-1], 55))
        self.assertIs(shows_near(case, row, find_near_values(case, row), 10), True)


class ShowsNear(unittest.TestCase):
    def told(self, expected, case, row, value, number):
        self.assertIs(call(self, shows_near, case, row, value, number), expected, repr((case, row, value, number))[:400])

    def test_ordinary(self):
        self.told(True, CASE, (0, 1, 2), VALUES, 1)
        self.told(True, CASE, (0, 1, 2), VALUES, 0)
        self.told(False, CASE, (0, 1, 2), VALUES, 2)
        self.told(False, CASE, (0, 1, 2), VALUES, 10 ** 29)
        self.told(False, CASE, (0, 1, 2), {(): 0}, 1)
        self.told(False, CASE, (0, 1, 2), {(): 0}, 0)
        self.told(False, CASE, (0, 1, 2), {}, 0)

    def test_each_value(self):
        for some in VALUES:
            for value in (0, 1, 2, 7):
                values = {**VALUES, some: value}
                for number in (0, 1, 2):
                    self.told(plain_movers.shows_near(CASE, (0, 1, 2), values, number), CASE, (0, 1, 2), values, number)
            less = {one: VALUES[one] for one in VALUES if one != some}
            for number in (0, 1):
                self.told(False, CASE, (0, 1, 2), less, number)
        self.told(True, CASE, (0, 1, 2), {**VALUES, (1,): 0, (0, 1): 0, (0, 1, 2): 0}, 0)
        self.told(False, CASE, (0, 1, 2), {**VALUES, (): 1, (1,): 2}, 1)
        self.told(False, CASE, (0, 1, 2), {**VALUES, (1,): 2}, 1)

    def test_sets_that_no_near_step_reaches(self):
        self.told(True, CASE, (0, 1, 2), {**VALUES, (2,): 0, (1, 2): 1}, 1)
        self.told(False, CASE, (0, 1, 2), {**VALUES, (2,): 0, (1, 2): 2}, 1)
        self.told(True, CASE, (0, 1, 2), {**VALUES, (2,): 9, (1, 2): 10}, 1)
        # (2,) and (0,) lead on, to sets that are not there, and (1, 2) leads to all sheets for too little.
        self.told(False, CASE, (0, 1, 2), {**VALUES, (2,): 0}, 1)
        self.told(False, CASE, (0, 1, 2), {**VALUES, (0,): 0}, 1)
        self.told(False, CASE, (0, 1, 2), {**VALUES, (1, 2): 0}, 1)
        self.told(True, CASE, (0, 1, 2), {**VALUES, (1, 2): 1}, 1)
        self.told(False, CASE, (0, 1, 2), {**VALUES, (2,): 0, (1, 2): 3, (0, 2): 9, (0,): 0}, 1)

    def test_costs_count_all_that_stand_ahead_in_the_row(self):
        values = {(): 0, (1,): 1, (0, 1): 1, (0, 1, 2): 1}
        for row in permutations(range(3)):
            for number in range(4):
                self.told(plain_movers.shows_near(CASE, row, values, number), CASE, row, values, number)
        self.told(True, CASE, (2, 0, 1), {(): 0, (1,): 2, (0, 1): 3, (0, 1, 2): 3}, 3)
        self.told(False, CASE, (2, 0, 1), {(): 0, (1,): 2, (0, 1): 4, (0, 1, 2): 4}, 3)

    def test_other_kinds(self):
        for key in ((1, 0), (0, 0), (3,), (-1,), (0, 3), 0, None, "0", "", ((0,),), (10 ** 29,), True, ("0",), (None,), (0, 1, 2, 2), (0, "1")):
            self.told(False, FREE, (0, 1, 2), {**{some: 0 for some in all_sets(3)}, key: 0}, 0)
        for value in (True, False, -1, None, "0", (0,), [0], {}, "", [], ((0,),)):
            for some in VALUES:
                self.told(False, CASE, (0, 1, 2), {**VALUES, some: value}, 0)
        for value in (list(VALUES.items()), tuple(VALUES.items()), [VALUES], (VALUES,), list(VALUES), None, 0, True, "", (), []):
            self.told(False, CASE, (0, 1, 2), value, 0)
        self.told(False, CASE, (0, 1, 2), {(): 0, (True,): 1, (0, 1): 1, (0, 1, 2): 1}, 1)
        self.told(False, CASE, (0, 1, 2), {(): 0, (1,): 1, (False, 1): 1, (0, 1, 2): 1}, 1)
        self.told(False, (ONE, {}, ()), (0,), {(): 0, (False,): 0}, 0)
        self.told(True, (ONE, {}, ()), (0,), {(): 0, (0,): 0}, 0)

    def test_any_value(self):
        for value in WRONG:
            self.told(False, CASE, (0, 1, 2), value, 0)
            self.told(repr(value) == "1", CASE, (0, 1, 2), {**VALUES, (1,): value}, 1)
            self.told(False, CASE, (0, 1, 2), {some: value for some in VALUES} if repr(value) != "0" else (), 0)
            self.told(False, CASE, (0, 1, 2), {(): 0, (1,): value, (0, 1): 1, (0, 1, 2): 10 ** 29}, 1)

    def test_changed_in_one_place(self):
        tally = [0, 0]
        rng = random.Random(257)
        for case, orders in met_cases(258, 500, 4):
            count = len(case[0][2])
            row = tuple(rng.sample(range(count), count))
            values, number = find_near_values(case, row), nearest(case, row)[1]
            some = rng.choice(sorted(values))
            more = {some: max(0, values[some] + rng.choice([-1, 1])), rng.choice(all_sets(count)): rng.randrange(6)}
            for value in (changed_once(rng, values), {**values, **more}, {**values, some: more[some]}):
                right = plain_movers.shows_near(case, row, value, number)
                tally[right] += 1
                self.told(right, case, row, value, number)
        self.assertGreater(min(tally), 100, tally)


if __name__ == "__main__":
    unittest.main()
