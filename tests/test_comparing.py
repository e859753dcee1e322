import random
import unittest

from laidsheets.comparing import find_only, implies, narrowed, same_orders
from laidsheets.counts import count_orders
from laidsheets.orders import find_order, is_order
from laidsheets.piles import covered, is_case
from tests import plain
from tests.calls import call
from tests.samples import BOARD, CASE, EITHER, FIRST, FREE, JAMMED, ONE, PILE, TEN, some_cases, some_other, stacked

STACK = stacked("abcdefghij")
LETTERS = "abcdefghijklmnopqrstuvwxyz"


class Comparing(unittest.TestCase):
    def told(self, case, other, right):
        """Tests whether an order is found that meets the first case and not the other one."""
        order = call(self, find_only, case, other)
        self.assertEqual(order is not None, right, (case, other))
        self.assertIs(call(self, implies, case, other), not right)
        if right:
            self.assertIs(is_order(case, order), True)
            self.assertIs(is_order(other, order), False)
            self.assertTrue(plain.meets(case, order) and not plain.meets(other, order))

    def same(self, case, other, right):
        self.assertIs(call(self, same_orders, case, other), right)
        self.assertIs(call(self, same_orders, other, case), right)

    def test_ordinary(self):
        self.told(CASE, FIRST, False)
        self.told(FIRST, CASE, True)
        self.told(FREE, CASE, True)
        self.told(CASE, FREE, False)
        self.told(CASE, (PILE, {}, ((2, (1,)), (0, (1, 2)))), False)
        self.told((PILE, {}, ((2, (1,)), (0, (1, 2)))), CASE, True)
        self.told(CASE, EITHER, True)
        self.same(CASE, FIRST, False)
        self.same(CASE, (PILE, {}, ((0, (1,)), (2, (0,)))), True)
        self.same(EITHER, (PILE, {}, ((0, (2,)), (1, (2,)))), True)
        self.same(FIRST, (PILE, {}, ((2, (0,)),)), True)

    def test_the_same_case(self):
        for case in (CASE, JAMMED, FREE, FIRST, EITHER, (ONE, {}, ()), (ONE, {(0, 0): ""}, ())):
            self.told(case, case, False)
            self.same(case, case, True)

    def test_no_order_meets_one(self):
        for case in (CASE, FREE, EITHER):
            self.told(JAMMED, case, False)
            self.told(case, JAMMED, True)
            self.same(case, JAMMED, False)
        self.same(JAMMED, (PILE, {}, ((0, (1,)), (1, (0,)))), True)
        self.told((ONE, {}, ()), (ONE, {(0, 0): "b"}, ()), True)
        self.told((ONE, {(0, 0): "b"}, ()), (ONE, {}, ()), False)

    def test_one_reading_or_saying_alone_tells_them_apart(self):
        self.told(FIRST, (PILE, {(0, 0): "ab", (0, 1): "ab", (0, 2): "b"}, ()), True)
        self.told(FIRST, (PILE, {(0, 0): "ab", (0, 1): "ab", (0, 2): "bc"}, ()), False)
        self.told(FIRST, (PILE, {}, ((2, (0,)), (2, (0, 1)), (2, (1,)))), True)
        self.told(FIRST, (PILE, {}, ((2, (0,)), (2, (0, 1)))), False)

    def test_by_the_document(self):
        tally = {}
        rng = random.Random(111)
        for case in some_cases(112, 800):
            other = some_other(rng, case, plain.all_orders(case))
            self.assertTrue(plain.case_holds(other), other)
            only, back = plain.all_only(case, other), plain.all_only(other, case)
            self.told(case, other, bool(only))
            self.assertIn(find_only(case, other), only or [None])
            self.told(other, case, bool(back))
            self.same(case, other, not only and not back)
            kind = (bool(only), bool(back))
            tally[kind] = tally.get(kind, 0) + 1
        self.assertGreater(min(tally[one, two] for one in (False, True) for two in (False, True)), 40, tally)

    def test_ten_sheets(self):
        free = (STACK, {}, ())
        self.told(free, (STACK, {(0, 0): LETTERS}, ()), False)
        self.told(free, (STACK, {(0, 0): LETTERS[1:]}, ()), True)
        self.told(free, (STACK, {}, ((9, tuple(range(9))),)), True)
        self.told((STACK, {(0, 0): "a"}, ()), (STACK, {}, tuple((s, (0,)) for s in range(1, 7))), False)
        self.told((STACK, {}, tuple((s, (s - 1,)) for s in range(1, 7))), (STACK, {}, ((6, (0,)),)), False)
        self.told((STACK, {}, tuple((s, (s - 1,)) for s in range(1, 7))), (STACK, {}, ((7, (0,)),)), True)
        self.told((TEN, {}, ()), (TEN, {}, ()), False)

    def test_large_boards(self):
        tally = [0, 0]
        rng = random.Random(113)
        for case in some_cases(114, 150, 10, 8):
            order = find_order(case)
            other = some_other(rng, case, [order] if order else [])
            found = call(self, find_only, case, other)
            tally[found is None] += 1
            self.told(case, other, found is not None)
        self.assertGreater(min(tally), 30, tally)

    def test_eleven_sheets_raise_nothing(self):
        free = (stacked("abcdefghijk"), {}, ())
        self.assertEqual(find_only(free, (free[0], {(0, 0): "abcdefghij"}, ()))[0], 10)
        self.assertIs(same_orders(free, (free[0], {(0, 0): "abcdefghijk"}, ())), True)


class Narrowed(unittest.TestCase):
    def told(self, case, view):
        self.assertEqual(call(self, narrowed, case), (case[0], view, case[2]))

    def test_ordinary(self):
        self.told(CASE, {(0, 0): "a", (0, 1): "b", (0, 2): "b"})
        self.told(FREE, {(0, 0): "ac", (0, 1): "ab", (0, 2): "bc"})
        self.told(FIRST, {(0, 0): "a", (0, 1): "ab", (0, 2): "bc"})
        self.told(EITHER, {(0, 0): "c", (0, 1): "ab", (0, 2): "c"})
        self.told((PILE, {(0, 0): "abxyz"}, ()), {(0, 0): "a", (0, 1): "ab", (0, 2): "bc"})
        self.told((ONE, {}, ()), {(0, 0): "a"})
        self.told((stacked("zayb"), {}, ()), {(0, 0): "abyz"})
        self.told((stacked("zzaz"), {}, ((2, (0,)),)), {(0, 0): "z"})

    def test_no_order_meets_it(self):
        self.told(JAMMED, {(0, 0): "", (0, 1): "", (0, 2): ""})
        self.told((ONE, {(0, 0): "b"}, ()), {(0, 0): ""})
        self.told((PILE, {}, ((0, (1,)), (1, (0,)))), {(0, 0): "", (0, 1): "", (0, 2): ""})

    def test_by_the_document(self):
        tally = [0, 0]
        for case in some_cases(115, 600):
            orders = plain.all_orders(case)
            cells = plain.covered_cells(case[0])
            view = {cell: "".join(sorted({plain.letters_down(case[0], order, cell)[0] for order in orders})) for cell in cells}
            self.told(case, view)
            self.assertEqual(plain.all_orders(narrowed(case)), orders)
            self.assertIs(same_orders(case, narrowed(case)), True)
            tally[bool(orders)] += 1
        self.assertGreater(min(tally), 100, tally)

    def test_ten_sheets(self):
        self.told((STACK, {}, ()), {(0, 0): "abcdefghij"})
        self.told((STACK, {(0, 0): "abxyz"}, ((0, (1,)),)), {(0, 0): "b"})
        for case in [(TEN, {}, ()), (BOARD, {}, ()), (BOARD, {(7, 7): "z"}, ())] + some_cases(116, 100, 10, 8):
            other = call(self, narrowed, case)
            self.assertIs(is_case(other), True)
            self.assertEqual(count_orders(other), count_orders(case))
            self.assertEqual(sorted(other[1]), sorted(covered(case[0])))
            self.assertIs(call(self, same_orders, case, other), True)
            self.assertEqual(call(self, narrowed, other), other)

    def test_the_view_is_a_new_one(self):
        case = (PILE, {(0, 0): "a", (0, 1): "ab", (0, 2): "bc"}, ())
        self.assertEqual(narrowed(case), case)
        self.assertIsNot(narrowed(case)[1], case[1])

    def test_eleven_sheets_raise_nothing(self):
        self.told((stacked("abcdefghijk"), {}, ()), {(0, 0): "abcdefghijk"})


if __name__ == "__main__":
    unittest.main()
