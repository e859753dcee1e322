import random
import unittest
from itertools import combinations, permutations

from laidsheets.books import base_of, find_book_ground, find_source, is_book, is_book_ground, is_source, meets
from laidsheets.comparing import same_orders
from laidsheets.following import find_breach, find_ground
from laidsheets.orders import find_order
from laidsheets.topsets import tight_sayings
from tests import plain, plain_books
from tests.calls import call
from tests.plain_books import met_cases
from tests.samples import CASE, EITHER, FIRST, FREE, ONE, PILE, TEN, WRONG, changed_once, some_cases, stacked

STACK = stacked("abcdefghij")
BOOK = ((0, (1,)), (0, (2, 3)), (1, (2,)), (3, (1, 2)))


def some_books(seed, many, count):
    """So many books by chance, some of which no row meets."""
    rng = random.Random(seed)
    known = plain.all_sayings((1, 1, ((0, 0, ("a",)),) * count))
    for _ in range(many):
        yield tuple(sorted(rng.sample(known, rng.randint(0, min(len(known), 7)))))


class IsBook(unittest.TestCase):
    def told(self, expected, count, value):
        self.assertIs(call(self, is_book, count, value), expected, repr((count, value))[:300])

    def test_ordinary(self):
        self.told(True, 4, BOOK)
        self.told(False, 3, BOOK)
        self.told(True, 10, BOOK)
        for count in range(1, 11):
            self.told(True, count, ())
            self.told(count > 1, count, ((0, (1,)),))
            self.told(count > 9, count, ((0, (9,)),))
            self.told(count > 9, count, ((9, (0, 1)),))

    def test_all_sayings(self):
        known = tuple(sorted(plain.all_sayings((1, 1, ((0, 0, ("a",)),) * 5))))
        self.told(True, 5, known)
        self.told(False, 4, known)
        self.told(False, 5, known[::-1])
        self.told(False, 5, known + known[-1:])

    def test_ascending(self):
        self.told(False, 3, ((0, (1,)), (0, (1,))))
        self.told(False, 3, ((1, (0,)), (0, (1,))))
        self.told(False, 3, ((0, (2,)), (0, (1, 2))))
        self.told(True, 3, ((0, (1, 2)), (0, (2,))))
        self.told(False, 3, ((0, (1, 2)), (0, (1,))))
        self.told(False, 3, ((0, (2, 1)),))
        self.told(False, 3, ((0, (1, 1)),))
        self.told(False, 3, ((0, ()),))
        self.told(False, 3, ((0, (0,)),))
        self.told(False, 3, ((0, (0, 1)),))

    def test_other_kinds(self):
        for value in (list(BOOK), dict(BOOK), [BOOK], (BOOK,), BOOK[0], (list(BOOK[0]),), ((0, [1]),), ((0, 1),), ((0,),), ((0, (1,), ()),),
                      ((False, (1,)),), ((0, (True,)),), (("0", (1,)),), ((0, ("1",)),), ((None, (1,)),), ((0, (None,)),), ((-1, (0,)),),
                      ((0, (-1,)),), ((0, (4,)),), ((4, (0,)),), ((0, (10 ** 29,)),), BOOK + (None,), BOOK + ((),), BOOK[:1] + (True,),
                      ((0, {1: 1}),), ((0, (1,)), (True, (2,))), None, True, 0, "", [], {}, "01"):
            self.told(False, 4, value)

    def test_any_value(self):
        for value in WRONG:
            for count in (1, 3, 10):
                self.told(repr(value) == "()", count, value)
                self.told(count > 1 and repr(value) == "(0, (1,))", count, (value,))
                self.told(count > 2 and repr(value) == "(1, 2)", count, ((0, value),))
                self.told(False, count, ((value, (1,)),) if repr(value) not in ("0", "2") else [])
                self.told(False, count, BOOK + (value,))

    def test_changed_in_one_place(self):
        tally = [0, 0]
        rng = random.Random(201)
        for count in (2, 3, 4):
            for book in some_books(202 + count, 400, count):
                value = changed_once(rng, book)
                right = plain_books.book_holds(count, value)
                tally[right] += 1
                self.told(right, count, value)
        self.assertGreater(min(tally), 60, tally)


class Meets(unittest.TestCase):
    def test_ordinary(self):
        self.assertIs(call(self, meets, BOOK, (2, 1, 3, 0)), True)
        self.assertIs(call(self, meets, BOOK, (2, 1, 0, 3)), True)
        self.assertIs(call(self, meets, BOOK, (2, 3, 0, 1)), False)
        self.assertIs(call(self, meets, BOOK, (1, 2, 3, 0)), False)
        self.assertIs(call(self, meets, ((0, (1, 2)),), (1, 0, 2)), True)
        self.assertIs(call(self, meets, ((0, (1, 2)),), (0, 1, 2)), False)
        for row in permutations(range(3)):
            self.assertIs(call(self, meets, (), row), True)
            self.assertIs(meets(((0, (1,)), (1, (0,))), row), False)
        self.assertIs(call(self, meets, (), (0,)), True)

    def test_by_the_document(self):
        tally = [0, 0]
        for count in (2, 3, 4):
            for book in some_books(203 + count, 60, count):
                for row in permutations(range(count)):
                    right = plain_books.meets(book, row)
                    tally[right] += 1
                    self.assertIs(call(self, meets, book, row), right, (book, row))
        self.assertGreater(min(tally), 100, tally)


class Base(unittest.TestCase):
    def test_ordinary(self):
        self.assertEqual(call(self, base_of, CASE), ((0, (1,)), (2, (0,))))
        self.assertEqual(call(self, base_of, FIRST), ((2, (0,)),))
        self.assertEqual(call(self, base_of, EITHER), ((0, (2,)), (1, (2,))))
        self.assertEqual(call(self, base_of, FREE), ())
        self.assertEqual(call(self, base_of, (ONE, {(0, 0): "a"}, ())), ())

    def test_a_saying_that_needs_an_or(self):
        self.assertEqual(call(self, base_of, (PILE, {}, ((0, (1, 2)),))), ((0, (1, 2)),))
        self.assertEqual(call(self, base_of, (STACK, {}, ((0, (1, 2)), (1, (3,))))), ((0, (1, 2)), (1, (3,))))
        # 0 lies under 2 anyhow, as 1 does; not so if 1 can lie under 3 instead.
        self.assertEqual(call(self, base_of, (STACK, {}, ((0, (1, 2)), (1, (2,))))), ((0, (2,)), (1, (2,))))
        self.assertEqual(call(self, base_of, (STACK, {}, ((0, (1, 2)), (1, (2, 3))))), ((0, (1, 2)), (1, (2, 3))))

    def test_by_the_document(self):
        tally = {0: 0, 1: 0, 2: 0, "none": 0, "tight": 0}
        for case, orders in met_cases(204, 600):
            count = len(case[0][2])
            base = call(self, base_of, case)
            self.assertEqual(base, plain_books.base(orders), case)
            self.assertIs(is_book(count, base), True)
            self.assertEqual(plain_books.rows_of(count, base), orders)
            tally["none"] += base == ()
            for saying in base:
                tally[min(2, len(saying[1]) - 1)] += 1
                self.assertTrue(plain_books.is_tight(orders, saying))
                less = tuple(one for one in base if one != saying)
                self.assertGreater(len(plain_books.rows_of(count, less)), len(orders))
            tight = sum(len(tight_sayings(case, s)) for s in range(count))
            tally["tight"] += tight > len(base)
        self.assertGreater(min(tally.values()), 20, tally)

    def test_every_book_has_for_each_saying_of_the_base_one_with_its_others(self):
        for case, orders in met_cases(205, 300):
            told = case[2]
            if case[1] == {} and told:
                base = base_of(case)
                for s, others in base:
                    self.assertTrue(any(about == s and set(others) <= set(more) for about, more in told), case)
                self.assertLessEqual(len(base), len(set(told)))
                self.assertEqual(base_of((case[0], {}, base[:6])) == base, len(base) < 7)

    def test_the_fewest_sayings_and_others_of_all_books(self):
        known = sorted(plain.all_sayings(PILE))
        books = {}
        for many in range(len(known) + 1):
            for book in combinations(known, many):
                books.setdefault(tuple(plain_books.rows_of(3, book)), []).append(book)
        tried = {}
        for case, orders in met_cases(218, 600, 3):
            if len(case[0][2]) == 3 and tuple(orders) not in tried:
                sizes = sorted((len(book), sum(len(others) for s, others in book), book) for book in books[tuple(orders)])
                self.assertEqual(base_of(case), sizes[0][2])
                self.assertTrue(len(sizes) == 1 or sizes[0][:2] < sizes[1][:2])
                tried[tuple(orders)] = True
        self.assertGreater(len(tried), 15)

    def test_equal_for_cases_that_the_same_orders_meet(self):
        found = {}
        for case, orders in met_cases(206, 300, 3):
            base = base_of(case)
            self.assertEqual(found.setdefault(tuple(orders), base), base)
        self.assertGreater(len(found), 15)
        # And unlike for all others with as many sheets.
        keys = [(len(key[0]), base) for key, base in found.items()]
        self.assertEqual(len(set(keys)), len(keys))

    def test_ten_sheets(self):
        for pile in (TEN, STACK):
            self.assertEqual(call(self, base_of, (pile, {}, ())), ())
        self.assertEqual(call(self, base_of, (STACK, {(0, 0): "a"}, ())), tuple((s, (0,)) for s in range(1, 10)))
        tally = [0, 0]
        for case in some_cases(207, 150, 10, 8):
            if find_order(case) is not None:
                base = call(self, base_of, case)
                self.assertIs(is_book(len(case[0][2]), base), True)
                for saying in base:
                    tally[len(saying[1]) > 1] += 1
                    self.assertIsNone(find_breach(case, saying))
                    self.assertTrue(all(find_breach(case, less) for less in plain_books.fewer(saying)))
                    self.assertIs(is_source(case, saying, call(self, find_source, case, saying)), True)
                for saying in case[2]:
                    self.assertIs(is_book_ground(base, saying, call(self, find_book_ground, base, saying)), True)
                if len(base) < 7:
                    self.assertTrue(same_orders(case, (case[0], {}, base)))
        self.assertGreater(min(tally), 50, tally)

    def test_eleven_sheets_raise_nothing(self):
        case = (stacked("abcdefghijk"), {(0, 0): "k"}, ())
        self.assertEqual(base_of(case), tuple((s, (10,)) for s in range(10)))
        self.assertEqual(find_source(case, (3, (10,))), ("cell", (0, 0)))


class Sources(unittest.TestCase):
    def told(self, expected, case, saying, value):
        self.assertIs(call(self, is_source, case, saying, value), expected, repr((case, saying, value))[:300])

    def test_ordinary(self):
        self.assertEqual(call(self, find_source, CASE, (2, (0,))), ("cell", (0, 0)))
        self.assertEqual(call(self, find_source, CASE, (0, (1,))), ("cell", (0, 1)))
        self.assertEqual(call(self, find_source, EITHER, (0, (2,))), ("saying", 0))
        self.assertEqual(call(self, find_source, EITHER, (1, (2,))), ("saying", 1))
        self.told(True, CASE, (2, (0,)), ("cell", (0, 0)))
        self.told(False, CASE, (2, (0,)), ("cell", (0, 2)))
        self.told(False, CASE, (2, (0,)), ("cell", (0, 1)))
        self.told(True, EITHER, (0, (2,)), ("saying", 0))
        self.told(False, EITHER, (0, (2,)), ("saying", 1))

    def test_within_the_sheets_that_are_not_in_the_top_set(self):
        # The saying 1 needs sheet 3, which is in the top set that (2, (1,)) comes from.
        case = (stacked("abcd"), {}, ((1, (3,)), (2, (1, 3)), (2, (1,)), (2, (0, 1))))
        self.assertEqual(base_of(case), ((1, (3,)), (2, (1,))))
        for i in range(4):
            self.told(i == 2, case, (2, (1,)), ("saying", i))
            self.told(i == 0, case, (1, (3,)), ("saying", i))

    def test_by_the_document(self):
        tally = [0, 0]
        for case, orders in met_cases(208, 300):
            for saying in base_of(case):
                found = call(self, find_source, case, saying)
                right = plain_books.sources(case, orders, saying)
                self.assertIn(found, right)
                known = [("cell", cell) for cell in plain.covered_cells(case[0])] + [("saying", i) for i in range(len(case[2]))]
                for value in known:
                    tally[value in right] += 1
                    self.told(value in right, case, saying, value)
                others = [one for one in base_of(case) if one[0] == saying[0] and one != saying]
                for other in others:
                    self.assertFalse([one for one in plain_books.sources(case, orders, other) if one in right])
        self.assertGreater(min(tally), 100, tally)

    def test_wrong_values(self):
        for value in (["cell", (0, 0)], ("cell", [0, 0]), ("cell", (0, False)), ("cell", (False, 0)), ("cell", (0, 0), 0), ("cell",),
                      ("Cell", (0, 0)), ("saying", (0, 0)), ((0, 0), "cell"), ("cell", 0), ("saying", 0), ("cell", None), ("cell", "00"),
                      {"cell": (0, 0)}, (0, 0), "cell", None, (("cell", (0, 0)),), [("cell", (0, 0))], {2: ("cell", (0, 0))}, (), 0):
            self.told(False, CASE, (2, (0,)), value)
        for value in (("saying", False), ("saying", 1), ("saying", -2), ("saying", "0"), ("saying", (0,)), ("saying", None), 0, False,
                      ("saying", 10 ** 29), ["saying", 0], ("saying", 0, 0), ("saying",), ("cell", 0), (0, "saying"), ("saying", (0, (1, 2)))):
            self.told(False, EITHER, (0, (2,)), value)

    def test_any_value(self):
        for value in WRONG:
            for case, saying in ((CASE, (2, (0,))), (EITHER, (1, (2,)))):
                self.told(False, case, saying, value)
                self.told(False, case, saying, ("cell", value))
                self.told(repr(value) == "1" and case is EITHER, case, saying, ("saying", value))
                self.told(value == "cell" and case is CASE, case, saying, (value, (0, 0)))


class BookGrounds(unittest.TestCase):
    def told(self, expected, book, saying, value):
        self.assertIs(call(self, is_book_ground, book, saying, value), expected, repr((book, saying, value))[:300])

    def test_ordinary(self):
        base = base_of(CASE)
        self.assertEqual(call(self, find_book_ground, base, (2, (1,))), {0: 0, 2: 1})
        self.assertIsNone(call(self, find_book_ground, base, (1, (0,))))
        self.assertEqual(call(self, find_book_ground, base, (2, (0,))), {2: 1})
        self.assertIsNone(call(self, find_book_ground, (), (0, (1,))))
        self.assertIsNone(call(self, find_book_ground, base, (9, (0,))))
        self.assertIsNone(call(self, find_book_ground, base, (0, (9,))))

    def test_is_book_ground(self):
        for saying, value, right in (((0, (1, 2)), {0: 0}, True), ((0, (1, 2)), {0: 1}, False), ((0, (1, 2, 3)), {0: 1}, True),
                                     ((0, (2,)), {0: 0, 1: 2}, True), ((0, (2,)), {0: 0}, False), ((0, (2,)), {1: 2}, False),
                                     ((0, (2,)), {}, False), ((0, (2,)), {0: 1, 3: 3, 1: 2}, True), ((0, (2,)), {0: 1, 3: 3}, False),
                                     ((0, (2,)), {0: 0, 1: 2, 3: 3}, True), ((0, (1,)), {0: 0, 1: 2}, False), ((0, (2,)), {0: 0, 1: 1}, False),
                                     ((0, (2,)), {0: 0, 1: 2, 2: 2}, False), ((1, (2,)), {1: 2}, True), ((0, (2,)), {0: 0, 1: 4}, False),
                                     ((0, (2,)), {0: 0, 1: -2}, False), ((0, (2,)), {0: -4, 1: 2}, False),
                                     ((0, (1, 2)), {0: 0, 1: 2}, False), ((1, (2, 3)), {1: 2, 3: 3}, False)):
            self.told(right, BOOK, saying, value)

    def test_two_that_hold_one_another(self):
        book = ((0, (1, 2)), (1, (0, 2)))
        self.told(True, book, (0, (2,)), {0: 0, 1: 1})
        self.told(False, book, (0, (2,)), {0: 0})
        self.assertEqual(call(self, find_book_ground, book, (0, (2,))), {0: 0, 1: 1})
        self.assertIsNone(find_book_ground(book, (0, (1,))))

    def test_by_the_document(self):
        tally = {}
        for count in (2, 3, 4, 5):
            for book in some_books(209 + count, 60, count):
                rows = plain_books.rows_of(count, book)
                for saying in plain.all_sayings((1, 1, ((0, 0, ("a",)),) * count)):
                    ground = call(self, find_book_ground, book, saying)
                    self.assertEqual(ground is not None, plain_books.some_book_ground(count, book, saying), (book, saying))
                    if ground is not None:
                        self.assertTrue(plain_books.book_ground_holds(book, saying, ground))
                        self.assertIs(is_book_ground(book, saying, ground), True)
                    if rows:
                        self.assertEqual(ground is not None, not plain.breaches(rows, saying), (book, saying))
                    key = (ground is not None, rows != [])
                    tally[key] = tally.get(key, 0) + 1
        self.assertEqual(len(tally), 4)
        self.assertGreater(min(tally.values()), 50, tally)

    def test_in_the_base_just_what_follows(self):
        for case, orders in met_cases(214, 150):
            base = base_of(case)
            for saying in plain.all_sayings(case[0]):
                self.assertEqual(find_book_ground(base, saying) is None, find_ground(case, saying) is None)

    def test_keys_and_numbers_of_other_kinds(self):
        for value in ({False: 0, 1: 2}, {0: 0, True: 2}, {0: False, 1: 2}, {0: 0, 1: "2"}, {0: 0, "1": 2}, {0: 0, 1: (2,)}, {0: 0, 1: None},
                      {0: 0, 1: 2, None: 0}, {0: 0, 1: 2, (): 0}, {0: 0, 1: [2]}, {0: 0, 1: BOOK[2]}, {0: 0, 1: 2, -1: 0}, {0: 0, 1: 2, 10: 0},
                      [(0, 0), (1, 2)], ((0, 0), (1, 2)), [0, 2], (0, 2), [{0: 0, 1: 2}], ({0: 0, 1: 2},), None, True, 0, "", [], (),
                      {0: ("saying", 0), 1: ("saying", 2)}, {0: 0, 1: 10 ** 29}, {0: 0, 1: 2, 10 ** 29: 0}):
            self.told(False, BOOK, (0, (2,)), value)
        self.told(False, ((1, (0,)), (1, (2,))), (1, (2,)), {1: True})
        self.told(True, ((1, (0,)), (1, (2,))), (1, (2,)), {1: 1})

    def test_any_value(self):
        for value in WRONG:
            self.told(False, BOOK, (0, (2,)), value)
            self.told(False, BOOK, (0, (2,)), {0: 0, 1: value} if repr(value) != "2" else ())
            self.told(repr(value) in ("0", "1"), BOOK, (0, (1, 2, 3)), {0: value})
            self.told(False, BOOK, (0, (2,)), {s: value for s in range(4)})

    def test_changed_in_one_place(self):
        tally = [0, 0]
        rng = random.Random(215)
        for book in some_books(216, 500, 4):
            for saying in rng.sample(plain.all_sayings((1, 1, ((0, 0, ("a",)),) * 4)), 12):
                ground = find_book_ground(book, saying)
                if ground is not None:
                    value = changed_once(rng, ground)
                    right = plain_books.book_ground_holds(book, saying, value)
                    tally[right] += 1
                    self.told(right, book, saying, value)
        self.assertGreater(min(tally), 60, tally)

    def test_ten_sheets(self):
        known = sorted(plain.all_sayings((1, 1, ((0, 0, ("a",)),) * 10)))
        rng = random.Random(217)
        tally = [0, 0]
        for many in (10, 60, 900, len(known)):
            book = tuple(sorted(rng.sample(known, many)))
            for saying in rng.sample(known, 8):
                ground = call(self, find_book_ground, book, saying)
                tally[ground is not None] += 1
                self.told(ground is not None, book, saying, ground)
        self.assertGreater(min(tally), 3, tally)
        chain = tuple((s, (s + 1,)) for s in range(9))
        self.assertEqual(call(self, find_book_ground, chain, (0, (9,))), {s: s for s in range(9)})


if __name__ == "__main__":
    unittest.main()
