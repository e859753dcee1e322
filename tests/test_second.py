import unittest
from math import factorial

from laidsheets.counts import count_orders
from laidsheets.orders import is_order
from laidsheets.piles import covered
from laidsheets.second import order_second, second_counts
from tests import plain
from tests.calls import call
from tests.samples import BOARD, CASE, EITHER, FIRST, FREE, JAMMED, ONE, PILE, TEN, some_cases, stacked

STACK = stacked("abcdefghij")
ALL = factorial(10)


class SecondCounts(unittest.TestCase):
    def told(self, case, cell, expected):
        self.assertEqual(call(self, second_counts, case, cell), expected)

    def test_ordinary(self):
        self.told(CASE, (0, 0), {"c": 1})
        self.told(CASE, (0, 1), {"a": 1})
        self.told(CASE, (0, 2), {"c": 1})
        self.told(FREE, (0, 1), {"a": 3, "b": 3})
        self.told(FIRST, (0, 0), {"c": 3})
        self.told(FIRST, (0, 2), {"b": 1, "c": 2})
        self.told(EITHER, (0, 0), {"a": 2})

    def test_three_sheets_at_a_cell(self):
        self.told((stacked("abc"), {}, ()), (0, 0), {"a": 2, "b": 2, "c": 2})
        self.told((stacked("abc"), {(0, 0): "a"}, ()), (0, 0), {"b": 1, "c": 1})
        self.told((stacked("abc"), {}, ((0, (1,)), (1, (2,)))), (0, 0), {"b": 1})
        self.told((stacked("aab"), {}, ()), (0, 0), {"a": 4, "b": 2})
        self.told((stacked("aab"), {(0, 0): "b"}, ()), (0, 0), {"a": 2})
        self.told((stacked("aaa"), {}, ()), (0, 0), {"a": 6})

    def test_only_one_sheet_covers_the_cell(self):
        self.told((ONE, {}, ()), (0, 0), {"": 1})
        self.told((ONE, {(0, 0): "a"}, ()), (0, 0), {"": 1})
        self.told((BOARD, {}, ()), (0, 0), {"": 24})
        self.told((BOARD, {(7, 7): "z"}, ()), (0, 0), {"": 12})
        self.told((BOARD, {(7, 7): "z"}, ()), (7, 7), {"a": 12})

    def test_no_order_meets_the_case(self):
        for cell in ((0, 0), (0, 1), (0, 2)):
            self.told(JAMMED, cell, {})
        self.told((ONE, {(0, 0): "b"}, ()), (0, 0), {})
        self.told((BOARD, {(7, 7): ""}, ()), (0, 0), {})
        self.told((PILE, {}, ((0, (1,)), (1, (0,)))), (0, 2), {})

    def test_ten_sheets(self):
        self.told((STACK, {}, ()), (0, 0), {letter: ALL // 10 for letter in "abcdefghij"})
        self.told((STACK, {(0, 0): "a"}, ()), (0, 0), {letter: ALL // 90 for letter in "bcdefghij"})
        self.told((stacked("aaaaaaabcc"), {}, ()), (0, 0), {"a": ALL // 10 * 7, "b": ALL // 10, "c": ALL // 5})

    def test_counts_add_up_to_ten_sheets(self):
        large = alone = 0
        for case in [(TEN, {}, ())] + some_cases(71, 120, 10):
            many = count_orders(case)
            large += many > 1000
            cells = covered(case[0])
            for cell in cells:
                counts = call(self, second_counts, case, cell)
                self.assertEqual(sum(counts.values()), many)
                self.assertTrue(all(number > 0 for number in counts.values()))
                if len(cells[cell]) == 1:
                    alone += many > 0
                    self.assertEqual(counts, {"": many} if many else {})
                else:
                    self.assertNotIn("", counts)
        self.assertGreater(min(large, alone), 20)


class OrderSecond(unittest.TestCase):
    def test_ordinary(self):
        self.assertEqual(call(self, order_second, CASE, (0, 2), "c"), (1, 0, 2))
        self.assertEqual(call(self, order_second, FIRST, (0, 2), "b"), (0, 2, 1))
        self.assertEqual(call(self, order_second, EITHER, (0, 1), "a"), (2, 1, 0))
        self.assertEqual(call(self, order_second, (ONE, {}, ()), (0, 0), ""), (0,))

    def test_letters_that_are_not_second(self):
        for letter in ("c", "z", ""):
            self.assertIsNone(call(self, order_second, FREE, (0, 1), letter))
        self.assertIsNone(call(self, order_second, CASE, (0, 2), "b"))
        self.assertIsNone(call(self, order_second, FIRST, (0, 0), "a"))
        self.assertIsNone(call(self, order_second, (ONE, {}, ()), (0, 0), "a"))
        for letter in ("a", "b", "c", ""):
            self.assertIsNone(call(self, order_second, JAMMED, (0, 0), letter))
            self.assertIsNone(call(self, order_second, (ONE, {(0, 0): ""}, ()), (0, 0), letter))

    def test_ten_sheets(self):
        case = (STACK, {(0, 0): "c"}, ((0, (1,)), (9, tuple(range(3, 9)))))
        for letter in list("abcdefghijk") + [""]:
            order = call(self, order_second, case, (0, 0), letter)
            self.assertEqual(order is not None, letter in list("bdefghi"))
            if order is not None:
                self.assertIs(is_order(case, order), True)
                self.assertEqual("abcdefghij"[order[1]], letter)

    def test_eleven_sheets_raise_nothing(self):
        case = (stacked("abcdefghijk"), {(0, 0): "k"}, ((0, (1,)),))
        self.assertEqual(second_counts(case, (0, 0)), {letter: factorial(9) if letter == "b" else factorial(9) // 2
                                                       for letter in "bcdefghij"})
        self.assertEqual(order_second(case, (0, 0), "d")[:2], (10, 3))


class Second(unittest.TestCase):
    def test_by_the_document(self):
        tally = {}
        for case in some_cases(72, 450):
            orders = plain.all_orders(case)
            for cell in plain.covered_cells(case[0]):
                counts = call(self, second_counts, case, cell)
                self.assertEqual(counts, plain.second_counts(case, orders, cell))
                for letter in ("a", "b", "c", "d", ""):
                    right = [order for order in orders if (plain.letters_down(case[0], order, cell) + [""])[1] == letter]
                    kind = (letter == "", bool(right))
                    tally[kind] = tally.get(kind, 0) + 1
                    self.assertIn(call(self, order_second, case, cell, letter), right or [None])
        self.assertGreater(min(tally.get((alone, right), 0) for alone in (False, True) for right in (False, True)), 100, tally)


if __name__ == "__main__":
    unittest.main()
