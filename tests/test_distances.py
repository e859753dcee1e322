import random
import unittest
from itertools import permutations
from math import factorial

from laidsheets.counts import count_orders
from laidsheets.distances import distances, order_apart, pair_counts
from laidsheets.nearest import farthest, nearest
from laidsheets.orders import find_order, is_order
from laidsheets.ways import distance
from tests import plain_movers
from tests.calls import call
from tests.plain_books import met_cases
from tests.samples import CASE, EITHER, FIRST, FREE, ONE, TEN, some_cases, stacked

STACK = stacked("abcdefghij")


class Distances(unittest.TestCase):
    def test_ordinary(self):
        self.assertEqual(call(self, distances, FIRST, (0, 1, 2)), [1, 2, 0, 0])
        self.assertEqual(call(self, distances, FIRST, (2, 1, 0)), [0, 0, 2, 1])
        self.assertEqual(call(self, distances, CASE, (0, 1, 2)), [0, 1, 0, 0])
        self.assertEqual(call(self, distances, EITHER, (0, 1, 2)), [0, 0, 1, 1])
        for row in permutations(range(3)):
            self.assertEqual(call(self, distances, FREE, row), [1, 2, 2, 1])

    def test_one_sheet(self):
        self.assertEqual(call(self, distances, (ONE, {}, ()), (0,)), [1])
        self.assertEqual(call(self, distances, (ONE, {(0, 0): "a"}, ()), (0,)), [1])
        self.assertEqual(call(self, order_apart, (ONE, {}, ()), (0,), 0), (0,))
        self.assertIsNone(call(self, order_apart, (ONE, {}, ()), (0,), 1))
        self.assertEqual(call(self, pair_counts, (ONE, {}, ())), {})

    def test_order_apart(self):
        self.assertIsNone(call(self, order_apart, FIRST, (0, 1, 2), 2))
        self.assertEqual(call(self, order_apart, FIRST, (0, 1, 2), 0), (0, 1, 2))
        self.assertIn(call(self, order_apart, FIRST, (0, 1, 2), 1), [(0, 2, 1), (1, 0, 2)])
        self.assertEqual(call(self, order_apart, CASE, (0, 1, 2), 1), (1, 0, 2))
        self.assertIsNone(call(self, order_apart, CASE, (0, 1, 2), 0))

    def test_numbers_beyond_the_greatest_distance(self):
        for number in (3, 4, 5, 45, 10 ** 29):
            self.assertIsNone(call(self, order_apart, FIRST, (0, 1, 2), number))
            self.assertEqual(call(self, order_apart, FREE, (0, 1, 2), number), (2, 1, 0) if number == 3 else None)

    def test_pair_counts(self):
        self.assertEqual(call(self, pair_counts, FIRST), {(0, 1): 2, (1, 0): 1, (0, 2): 3, (2, 0): 0, (1, 2): 2, (2, 1): 1})
        self.assertEqual(call(self, pair_counts, CASE), {(0, 1): 0, (1, 0): 1, (0, 2): 1, (2, 0): 0, (1, 2): 1, (2, 1): 0})
        self.assertEqual(call(self, pair_counts, FREE), {(s, t): 3 for s in range(3) for t in range(3) if s != t})

    def test_by_the_document(self):
        tally = [0, 0]
        rng = random.Random(261)
        for case, orders in met_cases(262, 400):
            count = len(case[0][2])
            self.assertEqual(call(self, pair_counts, case), plain_movers.pair_counts(orders), case)
            for row in [tuple(rng.sample(range(count), count)) for _ in range(2)]:
                found = call(self, distances, case, row)
                self.assertEqual(found, plain_movers.distances(orders, row), (case, row))
                for number in range(len(found) + 2):
                    order = call(self, order_apart, case, row, number)
                    there = [one for one in orders if distance(one, row) == number]
                    tally[there != []] += 1
                    self.assertEqual(order is None, there == [], (case, row, number))
                    self.assertIn(order, there or [None])
        self.assertGreater(min(tally), 300, tally)

    def test_ten_sheets(self):
        rng = random.Random(263)
        row = tuple(rng.sample(range(10), 10))
        for pile in (TEN, STACK):
            found = call(self, distances, (pile, {}, ()), row)
            self.assertEqual((len(found), sum(found), found[:4], found[::-1]), (46, factorial(10), [1, 9, 44, 155], found))
            for number in (0, 1, 17, 44, 45, 46):
                order = call(self, order_apart, (pile, {}, ()), row, number)
                self.assertEqual(order and distance(order, row), number if number < 46 else None)
            self.assertEqual(set(call(self, pair_counts, (pile, {}, ())).values()), {factorial(10) // 2})
        for case in some_cases(264, 80, 10, 8):
            if find_order(case) is not None:
                self.what_the_document_says(case, tuple(rng.sample(range(len(case[0][2])), len(case[0][2]))))

    def what_the_document_says(self, case, row):
        found = call(self, distances, case, row)
        many = count_orders(case)
        self.assertEqual(len(found), len(row) * (len(row) - 1) // 2 + 1)
        self.assertEqual(sum(found), many)
        there = [number for number, orders in enumerate(found) if orders]
        self.assertEqual((there[0], there[-1]), (nearest(case, row)[1], farthest(case, row)[1]))
        self.assertEqual(there, list(range(there[0], there[-1] + 1)))
        for number in (there[0] - 1, there[0], there[-1], there[-1] + 1):
            if number >= 0:
                order = call(self, order_apart, case, row, number)
                self.assertEqual(order is not None, number in there)
                if order is not None:
                    self.assertIs(is_order(case, order), True)
                    self.assertEqual(distance(order, row), number)
        pairs = call(self, pair_counts, case)
        self.assertEqual(len(pairs), len(row) * (len(row) - 1))
        self.assertTrue(all(pairs[s, t] + pairs[t, s] == many for s, t in pairs))
        # Each pair that stands otherwise in an order counts once there.
        self.assertEqual(sum(number * orders for number, orders in enumerate(found)),
                         sum(pairs[t, s] for at, s in enumerate(row) for t in row[at + 1:]))

    def test_eleven_sheets_raise_nothing(self):
        case = (stacked("abcdefghijk"), {(0, 0): "k"}, ())
        row = tuple(range(11))
        self.assertEqual(distances(case, row)[9:12], [0, 1, 9])
        self.assertEqual(order_apart(case, row, 10), (10,) + row[:10])
        self.assertEqual(pair_counts(case)[10, 0], factorial(10))


if __name__ == "__main__":
    unittest.main()
