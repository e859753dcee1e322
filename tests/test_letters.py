import unittest
from math import factorial

from laidsheets.counts import count_orders
from laidsheets.letters import best_cell, letter_counts, order_showing
from laidsheets.orders import is_order
from laidsheets.piles import covered
from tests import plain
from tests.calls import call
from tests.samples import BOARD, CASE, EITHER, FIRST, FREE, JAMMED, ONE, PILE, TEN, shown_at, some_cases, stacked

STACK = stacked("abcdefghij")
ALL = factorial(10)


class LetterCounts(unittest.TestCase):
    def told(self, case, cell, expected):
        self.assertEqual(call(self, letter_counts, case, cell), expected)

    def test_ordinary(self):
        self.told(CASE, (0, 0), {"a": 1})
        self.told(CASE, (0, 1), {"b": 1})
        self.told(CASE, (0, 2), {"b": 1})
        self.told(FREE, (0, 1), {"a": 3, "b": 3})
        self.told(FIRST, (0, 0), {"a": 3})
        self.told(FIRST, (0, 1), {"a": 2, "b": 1})
        self.told(FIRST, (0, 2), {"b": 2, "c": 1})
        self.told(EITHER, (0, 0), {"c": 2})
        self.told(EITHER, (0, 1), {"a": 1, "b": 1})

    def test_one_sheet(self):
        self.told((ONE, {}, ()), (0, 0), {"a": 1})
        self.told((BOARD, {}, ()), (0, 0), {"a": 24})
        self.told((BOARD, {}, ()), (7, 7), {"a": 12, "z": 12})

    def test_no_order_meets_the_case(self):
        for cell in ((0, 0), (0, 1), (0, 2)):
            self.told(JAMMED, cell, {})
        self.told((ONE, {(0, 0): ""}, ()), (0, 0), {})
        self.told((PILE, {}, ((0, (1,)), (1, (0,)))), (0, 2), {})

    def test_one_letter_of_several_sheets(self):
        self.told((stacked("aab"), {}, ()), (0, 0), {"a": 4, "b": 2})
        self.told((stacked("aab"), {}, ((0, (2,)),)), (0, 0), {"a": 1, "b": 2})
        self.told((stacked("aaa"), {}, ()), (0, 0), {"a": 6})

    def test_ten_sheets(self):
        self.told((STACK, {}, ()), (0, 0), {letter: ALL // 10 for letter in "abcdefghij"})
        self.told((stacked("aaaaaaabcc"), {}, ()), (0, 0), {"a": ALL // 10 * 7, "b": ALL // 10, "c": ALL // 5})
        self.told((STACK, {}, ((0, (1,)), (1, (2,)))), (0, 0),
                  {"c": ALL // 20, **{letter: ALL // 60 for letter in "defghij"}})

    def test_counts_add_up_to_ten_sheets(self):
        large = 0
        for case in [(TEN, {}, ())] + some_cases(61, 120, 10):
            many = count_orders(case)
            large += many > 1000
            for cell in covered(case[0]):
                counts = call(self, letter_counts, case, cell)
                self.assertEqual(sum(counts.values()), many)
                self.assertTrue(all(number > 0 for number in counts.values()))
        self.assertGreater(large, 20)


class OrderShowing(unittest.TestCase):
    def test_ordinary(self):
        self.assertEqual(call(self, order_showing, CASE, (0, 0), "a"), (1, 0, 2))
        self.assertEqual(call(self, order_showing, FIRST, (0, 1), "b"), (1, 0, 2))
        self.assertEqual(call(self, order_showing, FIRST, (0, 2), "c"), (0, 2, 1))
        self.assertEqual(call(self, order_showing, EITHER, (0, 1), "a"), (2, 0, 1))
        self.assertEqual(call(self, order_showing, (ONE, {}, ()), (0, 0), "a"), (0,))

    def test_letters_that_are_not_seen(self):
        for letter in "cdz":
            self.assertIsNone(call(self, order_showing, FREE, (0, 1), letter))
        self.assertIsNone(call(self, order_showing, CASE, (0, 1), "a"))
        self.assertIsNone(call(self, order_showing, FIRST, (0, 0), "c"))
        for letter in "abc":
            self.assertIsNone(call(self, order_showing, JAMMED, (0, 0), letter))
        self.assertIsNone(call(self, order_showing, (ONE, {}, ()), (0, 0), "b"))

    def test_ten_sheets(self):
        case = (STACK, {}, ((0, (1,)), (1, (2,)), (9, tuple(range(9)))))
        for letter in "abcdefghijk":
            order = call(self, order_showing, case, (0, 0), letter)
            self.assertEqual(order is not None, letter in "cdefghi")
            if order is not None:
                self.assertIs(is_order(case, order), True)
                self.assertEqual(shown_at(STACK, order, (0, 0)), letter)


class BestCell(unittest.TestCase):
    def told(self, case, expected):
        self.assertEqual(call(self, best_cell, case), expected)

    def test_ordinary(self):
        self.told(CASE, None)
        self.told(FREE, (0, 0))
        self.told(FIRST, (0, 1))
        self.told(EITHER, (0, 1))
        self.told(JAMMED, None)
        self.told((ONE, {}, ()), None)

    def test_the_least_of_the_greatest_numbers(self):
        pile = (1, 3, ((0, 0, ("aaa",)), (0, 0, ("abb",)), (0, 0, ("a.c",))))
        self.told((pile, {}, ()), (0, 2))
        self.told((pile, {(0, 2): "ab"}, ()), (0, 1))
        self.told((pile, {(0, 2): "bc"}, ()), (0, 2))

    def test_the_greatest_number_counts_not_the_number_of_letters(self):
        pile = (1, 2, ((0, 0, ("aa",)), (0, 0, ("aa",)), (0, 0, ("ab",)), (0, 0, ("bb",)), (0, 0, ("c.",))))
        self.assertEqual(call(self, letter_counts, (pile, {}, ()), (0, 0)), {"a": 72, "b": 24, "c": 24})
        self.assertEqual(call(self, letter_counts, (pile, {}, ()), (0, 1)), {"a": 60, "b": 60})
        self.told((pile, {}, ()), (0, 1))

    def test_of_several_the_least(self):
        pile = (2, 2, ((0, 0, ("ab", "cd")), (0, 0, (".x", "yz"))))
        self.told((pile, {}, ()), (0, 1))
        self.told((pile, {(1, 1): "d"}, ()), None)
        pile = (2, 2, ((0, 0, ("a.", "cd")), (0, 0, ("aw", "yz"))))
        self.told((pile, {}, ()), (1, 0))

    def test_ten_sheets(self):
        self.told((STACK, {}, ()), (0, 0))
        self.told((STACK, {(0, 0): "e"}, ()), None)
        rows = tuple((0, 0, ("x" * s + "y" * (8 - s),)) for s in range(10) if s <= 8)
        self.told(((1, 8, rows), {}, ()), (0, 3))

    def test_eleven_sheets_raise_nothing(self):
        case = (stacked("abcdefghijk"), {(0, 0): "jk"}, ())
        self.assertEqual(letter_counts(case, (0, 0)), {"j": ALL, "k": ALL})
        self.assertEqual(order_showing(case, (0, 0), "k")[0], 10)
        self.assertEqual(best_cell(case), (0, 0))


class Letters(unittest.TestCase):
    def test_by_the_document(self):
        tally = [0, 0]
        best = 0
        for case in some_cases(62, 450):
            orders = plain.all_orders(case)
            tally[bool(orders)] += 1
            for cell in plain.covered_cells(case[0]):
                counts = call(self, letter_counts, case, cell)
                self.assertEqual(counts, plain.first_counts(case, orders, cell))
                for letter in "abcd":
                    right = [order for order in orders if shown_at(case[0], order, cell) == letter]
                    self.assertIn(call(self, order_showing, case, cell, letter), right or [None])
            self.assertEqual(call(self, best_cell, case), plain.best_cell(case, orders))
            best += best_cell(case) is not None
        self.assertGreater(min(tally), 100, tally)
        self.assertGreater(best, 80)


if __name__ == "__main__":
    unittest.main()
