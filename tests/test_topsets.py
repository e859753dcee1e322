import random
import unittest

from laidsheets.following import find_breach
from laidsheets.orders import find_order
from laidsheets.topsets import fitting, paths, tight_sayings, top_sets
from tests import plain, plain_books
from tests.calls import call
from tests.plain_books import met_cases
from tests.samples import CASE, EITHER, FIRST, FREE, ONE, TEN, some_cases, stacked

STACK = stacked("abcdefghij")


class TopSets(unittest.TestCase):
    def test_ordinary(self):
        self.assertEqual(call(self, top_sets, CASE), [(), (0, 1), (0, 1, 2), (1,)])
        self.assertEqual(call(self, top_sets, FIRST), [(), (0,), (0, 1), (0, 1, 2), (0, 2), (1,)])
        self.assertEqual(call(self, top_sets, EITHER), [(), (0, 1, 2), (0, 2), (1, 2), (2,)])
        self.assertEqual(call(self, top_sets, FREE), sorted(plain_books.all_sets(3)))

    def test_one_sheet(self):
        for view in ({}, {(0, 0): "a"}):
            self.assertEqual(call(self, top_sets, (ONE, view, ())), [(), (0,)])
            self.assertEqual(call(self, fitting, (ONE, view, ()), ()), (0,))
            self.assertEqual(call(self, fitting, (ONE, view, ()), (0,)), ())
            self.assertEqual(call(self, paths, (ONE, view, ()), 0), [(0,)])
            self.assertEqual(call(self, tight_sayings, (ONE, view, ()), 0), [])

    def test_fitting(self):
        self.assertEqual(call(self, fitting, FIRST, ()), (0, 1))
        self.assertEqual(call(self, fitting, FIRST, (0,)), (1, 2))
        self.assertEqual(call(self, fitting, FIRST, (1,)), (0,))
        self.assertEqual(call(self, fitting, FIRST, (0, 1, 2)), ())
        self.assertEqual(call(self, fitting, EITHER, ()), (2,))

    def test_paths(self):
        self.assertEqual(call(self, paths, CASE, 2), [(0, 1, 2)])
        self.assertEqual(call(self, paths, CASE, 1), [(1,)])
        self.assertEqual(call(self, paths, EITHER, 0), [(0, 2)])
        case = (STACK, {}, ((0, (1, 2)), (1, (3,))))
        self.assertEqual(call(self, paths, case, 0), [(0, 1, 3), (0, 2)])
        self.assertEqual(call(self, paths, case, 2), [(2,)])

    def test_tight_sayings(self):
        self.assertEqual(call(self, tight_sayings, CASE, 2), [(2, (0,)), (2, (1,))])
        self.assertEqual(call(self, tight_sayings, CASE, 1), [])
        self.assertEqual(call(self, tight_sayings, EITHER, 0), [(0, (2,))])
        self.assertEqual(call(self, tight_sayings, EITHER, 2), [])
        case = (STACK, {}, ((0, (1, 2)), (1, (3,))))
        self.assertEqual(call(self, tight_sayings, case, 0), [(0, (1, 2)), (0, (2, 3))])
        self.assertEqual(call(self, tight_sayings, FREE, 0), [])

    def test_ascending_as_python_orders_tuples(self):
        case = (STACK, {(0, 0): "j"}, ((0, (1, 2, 3)),))
        for found in (call(self, top_sets, case), call(self, paths, case, 0), call(self, tight_sayings, case, 0)):
            self.assertEqual(found, sorted(found))
            self.assertGreater(len(found), 1)
        self.assertEqual(tight_sayings(case, 0), [(0, (1, 2, 3)), (0, (9,))])
        self.assertEqual(paths(case, 0), [(0, 1, 9), (0, 2, 9), (0, 3, 9)])

    def test_by_the_document(self):
        tally = {}
        for case, orders in met_cases(191, 400):
            tops = plain_books.top_sets(orders)
            self.assertEqual(call(self, top_sets, case), tops, case)
            for some in tops:
                self.assertEqual(fitting(case, some), plain_books.fitting(orders, some), (case, some))
            for s in range(len(case[0][2])):
                ways, tight = plain_books.paths(orders, s), plain_books.tight_sayings(case[0], orders, s)
                self.assertEqual(call(self, paths, case, s), ways, (case, s))
                self.assertEqual(call(self, tight_sayings, case, s), tight, (case, s))
                tally[len(ways)] = tally.get(len(ways), 0) + 1
                for saying in tight:
                    tally[saying[1][1:] == ()] = tally.get(saying[1][1:] == (), 0) + 1
        self.assertGreater(min(tally[kind] for kind in (False, True, 1, 2, 3)), 10, tally)

    def test_what_the_document_says_of_them(self):
        for case, orders in met_cases(192, 150):
            tops = top_sets(case)
            self.assertTrue(all(tuple(sorted({*one, *other})) in tops for one in tops for other in tops))
            for s in range(len(case[0][2])):
                ways = paths(case, s)
                for saying in plain.all_sayings(case[0]):
                    if saying[0] == s:
                        self.assertEqual(plain_books.follows(orders, saying), all(set(way) & set(saying[1]) for way in ways))

    def test_ten_sheets_free(self):
        for pile in (TEN, STACK):
            self.assertEqual(call(self, top_sets, (pile, {}, ())), sorted(plain_books.all_sets(10)))
            self.assertEqual(call(self, fitting, (pile, {}, ()), (1, 3, 8)), (0, 2, 4, 5, 6, 7, 9))
            self.assertEqual(call(self, paths, (pile, {}, ()), 4), [(4,)])
            self.assertEqual(call(self, tight_sayings, (pile, {}, ()), 4), [])

    def test_ten_sheets(self):
        case = (STACK, {}, ((9, (0, 1, 2, 3)), (0, (4, 5)), (1, (4, 5)), (2, (4, 6)), (3, (5, 7, 8))))
        self.assertEqual(len(call(self, paths, case, 9)), 9)
        self.assertEqual(call(self, paths, case, 9)[0], (0, 4, 9))
        rng = random.Random(193)
        for case in some_cases(194, 80, 10, 8):
            if find_order(case) is not None:
                s = rng.randrange(len(case[0][2]))
                tops, ways = call(self, top_sets, case), call(self, paths, case, s)
                self.assertTrue(set(ways) <= set(tops))
                some = rng.choice(tops)
                fit = call(self, fitting, case, some)
                self.assertEqual(list(fit), [t for t in range(len(case[0][2])) if t not in some
                                             and tuple(sorted(some + (t,))) in tops])
                for saying in call(self, tight_sayings, case, s):
                    self.assertIsNone(find_breach(case, saying))
                    self.assertTrue(all(find_breach(case, less) for less in plain_books.fewer(saying)))

    def test_eleven_sheets_raise_nothing(self):
        case = (stacked("abcdefghijk"), {(0, 0): "k"}, ())
        self.assertEqual(len(top_sets(case)), 1025)
        self.assertEqual(fitting(case, ()), (10,))
        self.assertEqual(paths(case, 0), [(0, 10)])
        self.assertEqual(tight_sayings(case, 0), [(0, (10,))])


if __name__ == "__main__":
    unittest.main()
