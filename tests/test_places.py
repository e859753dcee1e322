import unittest

from laidsheets.orders import is_order
from laidsheets.places import order_with, places
from tests import plain
from tests.calls import call
from tests.samples import CASE, EITHER, FIRST, FREE, JAMMED, ONE, PILE, TEN, some_cases, stacked

STACK = stacked("abcdefghij")


class Places(unittest.TestCase):
    def told(self, case, *expected):
        """Tests places for each sheet, and order_with for each sheet, place and beyond the last place."""
        sheets = range(len(case[0][2]))
        self.assertEqual([call(self, places, case, s) for s in sheets], list(expected))
        for s in sheets:
            for place in list(range(len(sheets) + 3)) + [100, 10 ** 29]:
                order = call(self, order_with, case, s, place)
                self.assertEqual(order is not None, place in expected[s])
                if order is not None:
                    self.assertIs(is_order(case, order), True)
                    self.assertEqual(order[place], s)

    def test_ordinary(self):
        self.told(CASE, [1], [0], [2])
        self.told(FREE, [0, 1, 2], [0, 1, 2], [0, 1, 2])
        self.told(FIRST, [0, 1], [0, 1, 2], [1, 2])
        self.told(EITHER, [1, 2], [1, 2], [0])
        self.told((PILE, {(0, 0): "a"}, ((0, (1,)),)), [1], [0], [2])

    def test_one_sheet(self):
        self.told((ONE, {}, ()), [0])
        self.told((ONE, {(0, 0): "a"}, ()), [0])

    def test_no_order_meets_the_case(self):
        self.told(JAMMED, [], [], [])
        self.told((ONE, {(0, 0): "b"}, ()), [])
        self.told((PILE, {(0, 0): "x"}, ()), [], [], [])
        self.told((PILE, {}, ((1, (2,)), (2, (1,)))), [], [], [])

    def test_ten_sheets(self):
        everywhere, behind = list(range(10)), list(range(1, 10))
        self.told((TEN, {}, ()), *[everywhere] * 10)
        self.told((STACK, {(0, 0): "d"}, ()), *[[0] if s == 3 else behind for s in range(10)])
        self.told((STACK, {}, ((4, (0, 1, 2)),)), *[behind if s == 4 else everywhere for s in range(10)])
        chain = tuple((s, (s + 1,)) for s in range(6))
        self.told((STACK, {}, chain), *[list(range(6 - s, 10 - s)) for s in range(7)] + [everywhere] * 3)

    def test_eleven_sheets_raise_nothing(self):
        case = (stacked("abcdefghijk"), {(0, 0): "k"}, ())
        self.assertEqual([places(case, 10), places(case, 0)], [[0], list(range(1, 11))])
        self.assertEqual(order_with(case, 0, 10)[::10], (10, 0))

    def test_by_the_document(self):
        tally = [0, 0]
        for case in some_cases(51, 450):
            orders = plain.all_orders(case)
            sheets = range(len(case[0][2]))
            tally[bool(orders)] += 1
            self.assertIs(type(places(case, 0)), list)
            for s in sheets:
                self.assertEqual(call(self, places, case, s), sorted({order.index(s) for order in orders}))
                for place in range(len(sheets) + 2):
                    right = [order for order in orders if place < len(sheets) and order[place] == s]
                    self.assertIn(call(self, order_with, case, s, place), right or [None])
        self.assertGreater(min(tally), 100, tally)


if __name__ == "__main__":
    unittest.main()
