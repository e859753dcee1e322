import random
import unittest
from itertools import permutations
from math import factorial

from laidsheets.counts import count_orders, nth_order, number_of
from laidsheets.orders import find_order, is_order
from tests import plain
from tests.calls import call
from tests.samples import BOARD, CASE, EITHER, FIRST, FREE, JAMMED, ONE, PILE, TEN, some_cases, stacked

STACK = stacked("abcdefghij")
ALL = factorial(10)
RING = tuple((s, ((s + 1) % 6,)) for s in range(6))


class CountOrders(unittest.TestCase):
    def test_ordinary(self):
        for case, expected in ((CASE, 1), (JAMMED, 0), (FREE, 6), (FIRST, 3), (EITHER, 2), ((ONE, {}, ()), 1),
                               ((ONE, {(0, 0): "a"}, ()), 1), ((ONE, {(0, 0): "b"}, ()), 0), ((ONE, {(0, 0): ""}, ()), 0),
                               ((PILE, {(0, 0): "ac"}, ()), 6), ((PILE, {(0, 1): ""}, ()), 0),
                               ((PILE, {}, ((0, (1,)), (1, (0,)))), 0), ((BOARD, {(7, 7): "z"}, ()), 12)):
            self.assertEqual(call(self, count_orders, case), expected)

    def test_ten_sheets(self):
        for pile in (STACK, TEN):
            self.assertEqual(call(self, count_orders, (pile, {}, ())), ALL)
        for reading, part in (("a", 1), ("aj", 2), ("abcdefghi", 9), ("abcdefghijk", 10), ("", 0), ("xyz", 0)):
            self.assertEqual(call(self, count_orders, (STACK, {(0, 0): reading}, ())), ALL // 10 * part)
        for sayings, expected in ((((3, (4,)),), ALL // 2), (((3, (4, 9)),), ALL // 3 * 2), (((0, tuple(range(1, 10))),), ALL // 10 * 9),
                                  (((0, (1,)), (1, (2,))), ALL // 6), (((0, (1,)), (5, (6, 7))), ALL // 3), (RING, 0)):
            self.assertEqual(call(self, count_orders, (STACK, {}, sayings)), expected)
        self.assertEqual(call(self, count_orders, (STACK, {(0, 0): "j"}, ((0, (1,)), (9, (8,))))), 0)
        self.assertEqual(call(self, count_orders, (STACK, {(0, 0): "i"}, ((0, (1,)), (9, (8,))))), factorial(9) // 2)

    def test_eleven_sheets_raise_nothing(self):
        case = (stacked("abcdefghijk"), {(0, 0): "k"}, ((0, (1,)),) * 7)
        self.assertEqual(count_orders(case), ALL // 2)
        self.assertEqual(nth_order(case, 0), (10, 1, 0, 2, 3, 4, 5, 6, 7, 8, 9))
        self.assertEqual(number_of(case, (10, 9, 8, 7, 6, 5, 4, 3, 2, 1, 0)), ALL // 2 - 1)


class Numbers(unittest.TestCase):
    def test_three_sheets(self):
        for n, order in enumerate(permutations(range(3))):
            self.assertEqual(call(self, nth_order, FREE, n), order)
            self.assertEqual(call(self, number_of, FREE, order), n)
        for n, order in enumerate([(0, 1, 2), (0, 2, 1), (1, 0, 2)]):
            self.assertEqual(call(self, nth_order, FIRST, n), order)
            self.assertEqual(call(self, number_of, FIRST, order), n)

    def test_none_beyond_the_last(self):
        for case, many in ((FREE, 6), (FIRST, 3), (CASE, 1), (JAMMED, 0), ((ONE, {}, ()), 1), ((ONE, {(0, 0): ""}, ()), 0)):
            if many > 0:
                self.assertIs(is_order(case, call(self, nth_order, case, many - 1)), True)
            for n in (many, many + 1, many + 7, 10 ** 29):
                self.assertIsNone(call(self, nth_order, case, n))

    def test_ten_sheets(self):
        case = (STACK, {}, ())
        rising = tuple(range(10))
        for n, order in ((0, rising), (1, rising[:8] + (9, 8)), (factorial(9), (1, 0) + rising[2:]), (ALL - 1, rising[::-1]),
                         (factorial(9) * 9 - 1, (8, 9) + rising[:8][::-1])):
            self.assertEqual(call(self, nth_order, case, n), order)
            self.assertEqual(call(self, number_of, case, order), n)
        for n in (ALL, ALL + 1, 10 ** 29):
            self.assertIsNone(call(self, nth_order, case, n))

    def test_inverse_for_ten_sheets(self):
        rng = random.Random(41)
        for pile in (STACK, TEN):
            for _ in range(30):
                order = list(range(10))
                rng.shuffle(order)
                number = call(self, number_of, (pile, {}, ()), tuple(order))
                self.assertEqual(call(self, nth_order, (pile, {}, ()), number), tuple(order))
                least = sum(factorial(9 - at) * sum(t < s for t in order[at:]) for at, s in enumerate(order))
                self.assertEqual(number, least)

    def test_inverse_for_up_to_ten_sheets(self):
        rng = random.Random(42)
        large = 0
        for case in some_cases(43, 300, 10):
            many = call(self, count_orders, case)
            large += many > 1000
            self.assertEqual(many > 0, find_order(case) is not None)
            self.assertIsNone(call(self, nth_order, case, many))
            last = -1, ()
            for n in sorted(set([rng.randrange(many) for _ in range(4)] + [0, many - 1]) if many else []):
                order = call(self, nth_order, case, n)
                self.assertIs(is_order(case, order), True)
                self.assertEqual(call(self, number_of, case, order), n)
                self.assertTrue(last < (n, order) and last[1] < order)
                last = n, order
        self.assertGreater(large, 60)

    def test_by_the_document(self):
        tally = [0, 0]
        for case in some_cases(44, 600):
            orders = plain.all_orders(case)
            tally[bool(orders)] += 1
            self.assertEqual(call(self, count_orders, case), len(orders))
            self.assertIs(type(count_orders(case)), int)
            for n, order in enumerate(orders):
                self.assertEqual(nth_order(case, n), order)
                self.assertEqual(number_of(case, order), n)
            for n in (len(orders), len(orders) + 1, len(orders) + 100):
                self.assertIsNone(nth_order(case, n))
            if orders:
                call(self, nth_order, case, len(orders) // 2)
                call(self, number_of, case, orders[-1])
        self.assertGreater(min(tally), 100, tally)

    def test_six_and_seven_sheets_by_the_document(self):
        rng = random.Random(45)
        for case in [case for case in some_cases(46, 200, 7) if len(case[0][2]) > 5][:24]:
            orders = plain.all_orders(case)
            self.assertEqual(count_orders(case), len(orders))
            for n in rng.sample(range(len(orders)), min(len(orders), 20)):
                self.assertEqual(nth_order(case, n), orders[n])
                self.assertEqual(number_of(case, orders[n]), n)
            self.assertIsNone(nth_order(case, len(orders)))


if __name__ == "__main__":
    unittest.main()
