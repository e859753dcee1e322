import random
import unittest
from itertools import permutations

from laidsheets.counts import count_orders, nth_order
from laidsheets.orders import find_order, is_order
from laidsheets.ways import distance, find_way, is_way, next_orders
from tests import plain, plain_books
from tests.calls import call
from tests.plain_books import met_cases
from tests.samples import CASE, EITHER, FIRST, FREE, ONE, TEN, WRONG, changed_once, some_cases, stacked

STACK = stacked("abcdefghij")
WAY = [(0, 2, 1), (0, 1, 2), (1, 0, 2)]


class Distance(unittest.TestCase):
    def test_ordinary(self):
        self.assertEqual(call(self, distance, (0, 2, 1), (1, 0, 2)), 2)
        self.assertEqual(call(self, distance, (0, 1, 2), (0, 1, 2)), 0)
        self.assertEqual(call(self, distance, (0, 1, 2), (2, 1, 0)), 3)
        self.assertEqual(call(self, distance, (0,), (0,)), 0)
        self.assertEqual(call(self, distance, tuple(range(10)), tuple(range(9, -1, -1))), 45)
        self.assertEqual(call(self, distance, (9, 3), (3, 9)), 1)

    def test_by_the_document(self):
        for count in range(1, 5):
            for row in permutations(range(count)):
                for other in permutations(range(count)):
                    self.assertEqual(call(self, distance, row, other), plain_books.distance(row, other))
        rng = random.Random(231)
        for _ in range(100):
            row, other = [tuple(rng.sample(range(10), 10)) for _ in range(2)]
            self.assertEqual(call(self, distance, row, other), plain_books.distance(row, other))
            self.assertEqual(distance(row, other) + distance(row, other[::-1]), 45)


class Found(unittest.TestCase):
    def way_told(self, case, order, other):
        way = call(self, find_way, case, order, other)
        self.assertEqual(len(way), distance(order, other) + 1)
        self.assertIs(call(self, is_way, case, order, other, way), True)
        return way

    def test_ordinary(self):
        self.assertEqual(self.way_told(FIRST, (0, 2, 1), (1, 0, 2)), WAY)
        self.assertEqual(self.way_told(FIRST, (1, 0, 2), (0, 2, 1)), WAY[::-1])
        self.assertEqual(self.way_told(CASE, (1, 0, 2), (1, 0, 2)), [(1, 0, 2)])
        self.assertEqual(self.way_told((ONE, {}, ()), (0,), (0,)), [(0,)])
        self.assertEqual(call(self, next_orders, FIRST, (0, 1, 2)), [(0, 2, 1), (1, 0, 2)])
        self.assertEqual(call(self, next_orders, FIRST, (0, 2, 1)), [(0, 1, 2)])
        self.assertEqual(call(self, next_orders, CASE, (1, 0, 2)), [])
        self.assertEqual(call(self, next_orders, (ONE, {}, ()), (0,)), [])
        self.assertEqual(call(self, next_orders, EITHER, (2, 0, 1)), [(2, 1, 0)])
        self.assertEqual(call(self, next_orders, FREE, (2, 0, 1)), [(0, 2, 1), (2, 1, 0)])

    def test_by_the_document(self):
        tally = {}
        rng = random.Random(232)
        for case, orders in met_cases(233, 350):
            for order in rng.sample(orders, min(4, len(orders))):
                near = [row for row in orders if row in plain_books.neighbours(order)]
                self.assertEqual(call(self, next_orders, case, order), near, (case, order))
                for other in rng.sample(orders, min(4, len(orders))):
                    way = self.way_told(case, order, other)
                    self.assertTrue(plain_books.way_holds(orders, order, other, way), (case, order, other, way))
                    tally[len(way)] = tally.get(len(way), 0) + 1
        self.assertGreater(min(tally[many] for many in range(1, 8)), 20, tally)

    def test_ten_sheets(self):
        for pile in (TEN, STACK):
            row = tuple(range(10))
            self.assertEqual(len(self.way_told((pile, {}, ()), row, row[::-1])), 46)
            self.assertEqual(len(call(self, next_orders, (pile, {}, ()), row)), 9)
        rng = random.Random(234)
        tally = 0
        for case in some_cases(235, 100, 10, 8):
            if find_order(case) is not None:
                many = count_orders(case)
                order, other = nth_order(case, rng.randrange(many)), nth_order(case, rng.randrange(many))
                tally += len(self.way_told(case, order, other)) > 3
                near = call(self, next_orders, case, order)
                self.assertEqual(near, sorted(row for row in plain_books.neighbours(order) if is_order(case, row)))
        self.assertGreater(tally, 25)

    def test_eleven_sheets_raise_nothing(self):
        case = (stacked("abcdefghijk"), {}, ())
        row = tuple(range(11))
        self.assertIs(is_way(case, row, row[::-1], find_way(case, row, row[::-1])), True)
        self.assertEqual(len(next_orders(case, row)), 10)


class IsWay(unittest.TestCase):
    def told(self, expected, case, order, other, value):
        self.assertIs(call(self, is_way, case, order, other, value), expected, repr((case, order, other, value))[:400])

    def test_ordinary(self):
        self.told(True, FIRST, WAY[0], WAY[2], WAY)
        self.told(True, FIRST, WAY[2], WAY[0], WAY[::-1])
        self.told(True, FIRST, WAY[0], WAY[1], WAY[:2])
        self.told(True, FIRST, WAY[0], WAY[0], WAY[:1])
        self.told(False, FIRST, WAY[0], WAY[2], WAY[::-1])
        self.told(False, FIRST, WAY[0], WAY[2], WAY[:2])
        self.told(False, FIRST, WAY[0], WAY[2], WAY[1:])
        self.told(False, FIRST, WAY[0], WAY[2], [WAY[0], WAY[2]])
        self.told(False, FIRST, WAY[0], WAY[0], [])
        self.told(False, FIRST, WAY[0], WAY[1], [WAY[2], WAY[1]])
        self.told(False, FIRST, WAY[1], WAY[0], WAY[1:])
        self.told(False, FIRST, WAY[0], WAY[1], WAY[1:])
        self.told(False, FIRST, WAY[0], WAY[0], WAY[1:2])
        self.told(True, (ONE, {}, ()), (0,), (0,), [(0,)])
        self.told(False, (ONE, {}, ()), (0,), (0,), [(False,)])
        self.told(False, (ONE, {}, ()), (0,), (0,), [(0,), (0,)])

    def test_ways_that_stand_still_or_go_round(self):
        self.told(False, FIRST, WAY[0], WAY[2], [WAY[0], WAY[0], WAY[2]])
        self.told(False, FIRST, WAY[0], WAY[2], [WAY[0], WAY[2], WAY[2]])
        self.told(False, FIRST, WAY[0], WAY[2], [WAY[0], WAY[0], WAY[1], WAY[2]])
        self.told(False, FIRST, WAY[0], WAY[1], [WAY[0], WAY[1], WAY[0], WAY[1]])
        self.told(False, FIRST, WAY[0], WAY[0], [WAY[0], WAY[1], WAY[0]])
        self.told(False, FIRST, WAY[0], WAY[0], [WAY[0], WAY[0]])
        row, other = (0, 1, 2), (2, 1, 0)
        self.told(True, FREE, row, other, [row, (0, 2, 1), (2, 0, 1), other])
        self.told(True, FREE, row, other, [row, (1, 0, 2), (1, 2, 0), other])
        self.told(False, FREE, row, other, [row, (1, 0, 2), (2, 0, 1), other])
        self.told(False, FREE, row, (1, 0, 2), [row, (0, 2, 1), (2, 0, 1), (2, 1, 0), (1, 2, 0), (1, 0, 2)])

    def test_orders_that_do_not_meet_the_case(self):
        row, other = (0, 1, 2), (1, 2, 0)
        way = [row, (1, 0, 2), other]
        self.told(True, FREE, row, other, way)
        self.told(False, (FREE[0], {(0, 0): "a"}, ()), row, other, way)
        case = (FREE[0], {}, ((1, (0, 2)),))
        self.told(False, case, row, (2, 1, 0), [row, (1, 0, 2), (1, 2, 0), (2, 1, 0)])
        self.told(True, case, row, (2, 1, 0), [row, (0, 2, 1), (2, 0, 1), (2, 1, 0)])

    def test_other_kinds(self):
        for value in (tuple(WAY), dict(enumerate(WAY)), [WAY], [list(row) for row in WAY], WAY + [None], [None] * 3, None, "", True, 3, {}, (),
                      [WAY[0], (0, True, 2), WAY[2]], [(False, 2, 1)] + WAY[1:], WAY[:2] + [(True, False, 2)], [WAY[0], (0, 1), WAY[2]],
                      [WAY[0], "012", WAY[2]], [WAY[0], (0, 1, 2, 2), WAY[2]], [WAY[0], (0, 1, 3), WAY[2]], [WAY[0], (0, 1, "2"), WAY[2]],
                      [WAY[0], (0, 1, 1), WAY[2]], [WAY[0], (0, 1, (2,)), WAY[2]], [WAY[0], {}, WAY[2]], [0, 1, 2], [WAY[0], WAY[1:], WAY[2]]):
            self.told(False, FIRST, WAY[0], WAY[2], value)

    def test_any_value(self):
        for value in WRONG:
            self.told(False, FIRST, WAY[0], WAY[2], value)
            self.told(False, FIRST, WAY[0], WAY[2], [value] * 3)
            self.told(value == WAY[1], FIRST, WAY[0], WAY[2], [WAY[0], value, WAY[2]])
            self.told(value == (0, 1, 2), FIRST, WAY[1], WAY[1], [value])

    def test_changed_in_one_place(self):
        tally = [0, 0]
        rng = random.Random(236)
        for case, orders in met_cases(237, 500):
            order, other = rng.choice(orders), rng.choice(orders)
            way = find_way(case, order, other)
            value = changed_once(rng, way)
            for at in range(1, len(way) - 1):
                if rng.random() < 0.5:
                    # Some other order that is a neighbour of both, if there is one, or of the one ahead.
                    near = [row for row in plain_books.neighbours(way[at - 1]) if distance(row, way[at + 1]) == 1]
                    value = way[:at] + [rng.choice(near)] + way[at + 1:]
            right = plain_books.way_holds(orders, order, other, value)
            tally[right] += 1
            self.told(right, case, order, other, value)
        self.assertGreater(min(tally), 60, tally)


if __name__ == "__main__":
    unittest.main()
