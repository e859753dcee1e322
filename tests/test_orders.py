import random
import unittest
from itertools import permutations

from laidsheets.orders import find_order, is_order, seen
from tests import plain
from tests.calls import call
from tests.samples import BOARD, CASE, JAMMED, ONE, PILE, TEN, WRONG, changed_once, shown_at, some_cases, some_pile

DISC = (1, 1, ((0, 0, ("a",)), (0, 0, ("b",)), (0, 0, ("a",))))


class IsOrder(unittest.TestCase):
    def told(self, expected, case, value):
        self.assertIs(call(self, is_order, case, value), expected, repr((case, value))[:400])

    def right(self, case, orders):
        for row in permutations(range(len(case[0][2]))):
            self.told(row in orders, case, row)

    def test_no_readings_and_no_sayings(self):
        self.right((PILE, {}, ()), list(permutations(range(3))))
        self.right((ONE, {}, ()), [(0,)])

    def test_readings(self):
        self.right(CASE, [(1, 0, 2)])
        self.right(JAMMED, [])
        self.right((PILE, {(0, 0): "a"}, ()), [(0, 1, 2), (0, 2, 1), (1, 0, 2)])
        self.right((PILE, {(0, 0): "ac"}, ()), list(permutations(range(3))))
        self.right((PILE, {(0, 0): "xyz"}, ()), [])
        self.right((PILE, {(0, 0): ""}, ()), [])

    def test_the_topmost_letter_counts_and_no_other(self):
        self.right((DISC, {(0, 0): "a"}, ()), [(0, 1, 2), (0, 2, 1), (2, 0, 1), (2, 1, 0)])
        self.right((DISC, {(0, 0): "b"}, ()), [(1, 0, 2), (1, 2, 0)])

    def test_sayings(self):
        self.right((PILE, {}, ((0, (1,)),)), [(1, 0, 2), (1, 2, 0), (2, 1, 0)])
        self.right((PILE, {}, ((0, (1, 2)),)), [(1, 0, 2), (1, 2, 0), (2, 0, 1), (2, 1, 0)])
        self.right((PILE, {}, ((0, (1,)), (1, (0,)))), [])
        self.right((PILE, {}, ((0, (1, 2)), (1, (0, 2)))), [(2, 0, 1), (2, 1, 0)])
        self.right((PILE, {}, ((2, (0, 1)),) * 6), [(0, 1, 2), (0, 2, 1), (1, 0, 2), (1, 2, 0)])

    def test_both(self):
        self.right((PILE, {(0, 0): "a"}, ((0, (1, 2)),)), [(1, 0, 2)])
        self.right((PILE, {(0, 0): "a"}, ((0, (2,)),)), [])

    def test_sheets_missing_twice_or_too_many(self):
        case = (PILE, {}, ())
        for value in ((), (0,), (0, 1), (1, 2), (0, 0, 1), (0, 1, 1), (2, 2, 2), (0, 1, 2, 2), (0, 1, 2, 3), (1, 2, 3),
                      (0, 1, 3), (-1, 0, 1), (0, 1, -1), (0, 1, 2, 0)):
            self.told(False, case, value)
        for value in ((), (1,), (-1,), (0, 0), (0, 1)):
            self.told(False, (ONE, {}, ()), value)

    def test_values_of_other_kinds(self):
        case = (PILE, {}, ())
        for value in ([0, 1, 2], {0: 1, 1: 2, 2: 0}, "012", (False, 1, 2), (0, True, 2), (False, True, 2), ("0", "1", "2"),
                      (0, 1, None), (0, 1, (2,)), ((0, 1, 2),), (0, 1, "2"), ([0], [1], [2]), ({}, 1, 2), (0, "b", None)):
            self.told(False, case, value)
        self.told(False, (ONE, {}, ()), (False,))

    def test_any_value(self):
        for value in WRONG:
            self.told(value == (0, 1, 2), (PILE, {}, ()), value)
            self.told(repr(value) == "(0,)", (ONE, {}, ()), value)
            self.told(False, JAMMED, value)
            self.told(False, (PILE, {}, ()), (0, 1, value) if repr(value) != "2" else ())

    def test_all_orders_and_values_changed_in_one_place(self):
        rng = random.Random(11)
        tally = {True: 0, False: 0}
        for case in some_cases(12, 240, 4):
            for row in permutations(range(len(case[0][2]))):
                expected = plain.meets(case, row)
                tally[expected] += 1
                self.told(expected, case, row)
                value = changed_once(rng, row)
                rows = [repr(row) for row in permutations(range(len(case[0][2])))]
                self.told(repr(value) in rows and plain.meets(case, value), case, value)
        self.assertGreater(min(tally.values()), 500)


class FindOrder(unittest.TestCase):
    def test_one_sheet(self):
        self.assertEqual(call(self, find_order, (ONE, {}, ())), (0,))
        self.assertEqual(call(self, find_order, (ONE, {(0, 0): "a"}, ())), (0,))
        self.assertIsNone(call(self, find_order, (ONE, {(0, 0): "b"}, ())))
        self.assertIsNone(call(self, find_order, (ONE, {(0, 0): ""}, ())))

    def test_ten_sheets(self):
        pile = (1, 1, tuple((0, 0, (letter,)) for letter in "abcdefghij"))
        chain = tuple((s, (s + 1,)) for s in range(3, 9))
        found = call(self, find_order, (pile, {(0, 0): "j"}, chain))
        self.assertEqual((sorted(found), found[0]), (list(range(10)), 9))
        self.assertEqual([s for s in found if s > 2], [9, 8, 7, 6, 5, 4, 3])
        self.assertIsNone(call(self, find_order, (pile, {(0, 0): "d"}, chain)))
        self.assertIsNone(call(self, find_order, (pile, {(0, 0): "xyz"}, ())))

    def test_a_choice_on_the_way_is_never_wrong(self):
        pile = (1, 5, ((0, 0, ("ab",)), (0, 1, ("cd",)), (0, 2, ("ef",)), (0, 3, ("gh",)), (0, 0, ("zzzzz",))))
        view = {(0, 0): "a", (0, 1): "c", (0, 2): "e", (0, 3): "g", (0, 4): "h"}
        self.assertEqual(call(self, find_order, (pile, view, ())), (3, 2, 1, 0, 4))

    def test_the_edges_of_the_board(self):
        self.assertEqual(call(self, find_order, (BOARD, {(7, 7): "z", (0, 7): "m"}, ((1, (2,)), (2, (3,))))), (3, 2, 1, 0))
        self.assertIsNone(call(self, find_order, (BOARD, {(7, 7): "a", (0, 7): "m"}, ((2, (1,)),))))

    def test_results_are_orders_or_there_is_none(self):
        tally = [0, 0]
        for case in some_cases(13, 1200):
            found = call(self, find_order, case)
            orders = plain.all_orders(case)
            tally[bool(orders)] += 1
            if orders:
                self.assertIs(type(found), tuple)
                self.assertIn(found, orders)
                self.assertIs(is_order(case, found), True)
            else:
                self.assertIsNone(found)
        self.assertGreater(min(tally), 200)

    def test_eleven_sheets_raise_nothing(self):
        pile = (1, 1, tuple((0, 0, (letter,)) for letter in "abcdefghijk"))
        found = find_order((pile, {(0, 0): "k"}, ((0, (1,)),) * 7))
        self.assertEqual(found[0], 10)
        self.assertIs(is_order((pile, {(0, 0): "k"}, ((0, (1,)),) * 7), found), True)


class Seen(unittest.TestCase):
    def test_three_sheets(self):
        told = {(0, 1, 2): "aab", (0, 2, 1): "aac", (1, 0, 2): "abb", (1, 2, 0): "cbb", (2, 0, 1): "cac", (2, 1, 0): "cbc"}
        for order in told:
            self.assertEqual(call(self, seen, PILE, order), (told[order],))

    def test_cells_that_no_sheet_covers(self):
        pile = (4, 4, ((1, 1, ("a.", ".b")), (1, 2, ("c",))))
        self.assertEqual(call(self, seen, pile, (1, 0)), ("....", ".ac.", "..b.", "...."))

    def test_a_hole_shows_what_lies_below(self):
        pile = (2, 2, ((0, 0, (".a", "b.")), (0, 0, ("cc", "cc"))))
        self.assertEqual(call(self, seen, pile, (0, 1)), ("ca", "bc"))
        self.assertEqual(call(self, seen, pile, (1, 0)), ("cc", "cc"))

    def test_edges_of_the_board(self):
        self.assertEqual(call(self, seen, BOARD, (3, 2, 1, 0)), (
            "aaaaaaam", "aaaaaaaa", "aaaaaaaa", "aaaabaaa", "aaababaa", "aaaabaaa", "aaaaaaaa", "aaaaaaaz"))
        self.assertEqual(call(self, seen, BOARD, (0, 1, 2, 3)), ("a" * 8,) * 8)
        self.assertEqual(call(self, seen, ONE, (0,)), ("a",))
        self.assertEqual(call(self, seen, (8, 1, ((7, 0, ("q",)),)), (0,)), (".",) * 7 + ("q",))

    def test_by_the_document(self):
        rng = random.Random(14)
        for number in range(400):
            pile = some_pile(rng, 10) if number else TEN
            order = list(range(len(pile[2])))
            rng.shuffle(order)
            told = call(self, seen, pile, tuple(order))
            self.assertIs(type(told), tuple)
            self.assertEqual([len(line) for line in told], [pile[1]] * pile[0])
            for row in range(pile[0]):
                for column in range(pile[1]):
                    self.assertEqual(told[row][column], shown_at(pile, order, (row, column)) or ".")


if __name__ == "__main__":
    unittest.main()
