import random
import unittest

from laidsheets.books import base_of
from laidsheets.following import find_ground
from laidsheets.orders import find_order
from laidsheets.standing import find_standing, is_standing
from laidsheets.topsets import tight_sayings
from tests import plain, plain_books
from tests.calls import call
from tests.plain_books import met_cases
from tests.samples import CASE, EITHER, FIRST, FREE, ONE, PILE, TEN, WRONG, changed_once, some_cases, some_sayings, stacked

STACK = stacked("abcdefghij")
# The base is (2, (0, 1)) and (3, (2,)), both told by sayings; (3, (0, 1)) is tight.
OVER = (stacked("abcd"), {}, ((2, (0, 1)), (3, (2,))))
# (4, (2, 3)) comes from the top set (0, 1), whose sheets lie in either row.
BEHIND = (stacked("abcde"), {}, ((2, (0, 1)), (3, (0, 1)), (4, (2, 3)), (3, (1,)), (2, (0,))))


class FindStanding(unittest.TestCase):
    def told(self, case, orders, saying):
        """Tests the standing that is found of a saying, and returns its word."""
        found = call(self, find_standing, case, saying)
        self.assertEqual(found[0], plain_books.standing_kind(orders, saying), (case, saying))
        self.assertTrue(plain_books.standing_holds(case, orders, saying, found), (case, saying, found))
        self.assertIs(call(self, is_standing, case, saying, found), True)
        return found[0]

    def test_ordinary(self):
        self.assertEqual(call(self, find_standing, CASE, (1, (0,))), ("broken", (1, 0, 2)))
        self.assertEqual(call(self, find_standing, CASE, (0, (1, 2)))[:2], ("loose", 2))
        self.assertEqual(call(self, find_standing, CASE, (2, (1,))), ("tight", {0: 0, 2: 1}, ()))
        self.assertEqual(call(self, find_standing, CASE, (2, (0,))), ("book", {2: ("cell", (0, 0))}, ((1, 0, 2),)))

    def test_an_or(self):
        self.assertEqual(call(self, find_standing, OVER, (2, (0, 1))), ("book", {2: ("saying", 0), 3: ("saying", 1)},
                                                                        ((0, 2, 1, 3), (1, 2, 0, 3))))
        kind, ground, orders = call(self, find_standing, OVER, (3, (0, 1)))
        self.assertEqual((kind, ground), ("tight", {2: 0, 3: 1}))
        self.assertTrue(plain_books.standing_holds(OVER, plain.all_orders(OVER), (3, (0, 1)), (kind, ground, orders)))
        self.assertEqual(find_standing(OVER, (3, (0, 2)))[:2], ("loose", 0))
        self.assertEqual(find_standing(OVER, (2, (0, 1, 3)))[:2], ("loose", 3))
        self.assertEqual(find_standing(OVER, (2, (0, 3)))[0], "broken")

    def test_the_top_set_in_one_row(self):
        orders = plain.all_orders(BEHIND)
        self.assertIn((4, (2, 3)), base_of(BEHIND))
        self.assertEqual(plain_books.origin(orders, (4, (2, 3))), (0, 1))
        kind, jam, rows = call(self, find_standing, BEHIND, (4, (2, 3)))
        self.assertEqual((kind, jam), ("book", {4: ("saying", 2)}))
        self.assertEqual(rows, ((0, 1, 2, 4, 3), (0, 1, 3, 4, 2)))

    def test_by_the_document(self):
        tally = {}
        for case, orders in met_cases(221, 130):
            for saying in plain.all_sayings(case[0]):
                kind = self.told(case, orders, saying)
                tally[kind, len(saying[1]) > 1] = tally.get((kind, len(saying[1]) > 1), 0) + 1
        self.assertEqual(sorted(tally), [("book", False), ("book", True), ("broken", False), ("broken", True), ("loose", True),
                                         ("tight", False), ("tight", True)])
        self.assertGreater(min(tally.values()), 5, tally)

    def test_ten_sheets(self):
        self.assertEqual(call(self, find_standing, (TEN, {}, ()), (3, (4,)))[0], "broken")
        self.assertEqual(call(self, find_standing, (STACK, {(0, 0): "a"}, ()), (3, (0, 4)))[:2], ("loose", 4))
        self.assertEqual(call(self, find_standing, (STACK, {(0, 0): "a"}, ()), (3, (0,)))[0], "book")
        tally = {}
        rng = random.Random(222)
        for case in some_cases(223, 80, 10, 8):
            if find_order(case) is not None:
                tight = tuple(saying for s in range(len(case[0][2])) for saying in tight_sayings(case, s))
                tight = tuple(saying for saying in tight if saying not in base_of(case))
                for saying in some_sayings(rng, case[0], None) + case[2][:2] + base_of(case)[:2] + tight[:3]:
                    found = call(self, find_standing, case, saying)
                    tally[found[0]] = tally.get(found[0], 0) + 1
                    self.assertIs(call(self, is_standing, case, saying, found), True)
        self.assertEqual(len(tally), 4)
        self.assertGreater(min(tally.values()), 8, tally)

    def test_eleven_sheets_raise_nothing(self):
        case = (stacked("abcdefghijk"), {(0, 0): "k"}, ())
        for saying in ((0, (10,)), (0, (1,)), (0, (1, 10))):
            self.assertIs(is_standing(case, saying, find_standing(case, saying)), True)


class IsStanding(unittest.TestCase):
    def told(self, expected, case, saying, value):
        self.assertIs(call(self, is_standing, case, saying, value), expected, repr((case, saying, value))[:400])

    def all_told(self, case, saying, *values):
        """Tests each value against what the document says."""
        orders = plain.all_orders(case)
        rights = [plain_books.standing_holds(case, orders, saying, value) for value in values]
        for value, right in zip(values, rights):
            self.told(right, case, saying, value)
        return rights

    def test_broken(self):
        for order in ((1, 0, 2), (0, 1, 2), (0, 2, 1), (1, 2, 0), (2, 0, 1), (2, 1, 0)):
            self.told(order == (1, 0, 2), CASE, (1, (0,)), ("broken", order))
            self.told(order in ((0, 2, 1), (0, 1, 2)), FIRST, (0, (1, 2)), ("broken", order))
            self.told(order == (0, 2, 1), FIRST, (2, (1,)), ("broken", order))
            self.told(False, FIRST, (2, (0,)), ("broken", order))
        for value in (("broken",), ("broken", (1, 0, 2), ()), ("broken", [1, 0, 2]), ["broken", (1, 0, 2)], ("Broken", (1, 0, 2)),
                      ("broken", (True, 0, 2)), ("broken", (1, False, 2)), ("broken", ((1, 0, 2),)), ((1, 0, 2), "broken"), ("broken", None),
                      ("broken", (1, 0)), ("broken", (1, 0, 2, 2)), ("broken", ()), ("broken", "102"), ("tight", (1, 0, 2)), (1, 0, 2),
                      ("broken", {1: 0}), {"broken": (1, 0, 2)}, ("broken", (1, 0, "2")), (("broken",), (1, 0, 2)), (None, (1, 0, 2))):
            self.told(False, CASE, (1, (0,)), value)

    def test_loose(self):
        ground = find_ground(CASE, (0, (1,)))
        self.told(True, CASE, (0, (1, 2)), ("loose", 2, ground))
        for o in (1, 0, 3, -1, None, "2", (2,), 2.0 == 2, False, (), [2], 10 ** 29):
            self.told(False, CASE, (0, (1, 2)), ("loose", o, ground))
        self.told(False, CASE, (0, (1,)), ("loose", 1, ground))
        self.told(False, CASE, (2, (0,)), ("loose", 0, {}))
        self.told(False, CASE, (2, (1,)), ("loose", 1, find_ground(CASE, (2, (1,)))))
        for value in ({}, {0: ("cell", (0, 0))}, {2: ("cell", (0, 0))}, {False: ("cell", (0, 1))}, [(0, ("cell", (0, 1)))], None, (),
                      {0: ("cell", (0, True))}, {0: ("cell", (0, 1)), 1: ("cell", (0, 1))}, {0: 0}, {0: ("cell", [0, 1])}):
            self.told(False, CASE, (0, (1, 2)), ("loose", 2, value))
        # Sheet 2 may stand in the ground, as it is left out of the others here.
        self.told(True, CASE, (0, (1, 2)), ("loose", 2, {0: ("cell", (0, 1)), 2: ("cell", (0, 0))}))
        for value in (("loose", ground), ("loose", 2), ("loose", 2, ground, ()), ["loose", 2, ground], ("loose", ground, 2),
                      ("tight", 2, ground), ("book", 2, ground), ("broken", 2, ground)):
            self.told(False, CASE, (0, (1, 2)), value)
        self.told(True, CASE, (2, (0, 1)), ("loose", 0, find_ground(CASE, (2, (1,)))))
        self.told(True, CASE, (2, (0, 1)), ("loose", 1, find_ground(CASE, (2, (0,)))))

    def test_tight(self):
        self.told(True, CASE, (2, (1,)), ("tight", {0: 0, 2: 1}, ()))
        for value in (("tight", {2: 1}, ()), ("tight", {0: 0}, ()), ("tight", {0: 0, 2: 0}, ()), ("tight", {0: 0, 2: True}, ()),
                      ("tight", {False: 0, 2: 1}, ()), ("tight", {0: False, 2: 1}, ()), ("tight", {0: 0, 2: 1}, []), ("tight", {}, ()),
                      ("tight", {0: 0, 2: 1}, ((1, 0, 2),)), ("tight", {0: 0, 2: 1}, None), ("tight", {0: 0, 2: 1}), ("tight", (), {0: 0, 2: 1}),
                      ("tight", {0: ("cell", (0, 1)), 2: ("cell", (0, 0))}, ()), ["tight", {0: 0, 2: 1}, ()], ("loose", {0: 0, 2: 1}, ()),
                      ("book", {0: 0, 2: 1}, ()), ("tight", {0: 0, 2: 1}, {}), ("tight", {0: 0, 2: 1}, ""), ("tight", [(0, 0), (2, 1)], ()),
                      ("tight", {0: 0, 2: 1, 1: 0}, ()), ("tight", {0: 0, 2: -1}, ()), ("tight", {0: 0, 2: 2}, ()), ("tight", {0: 0, 2: 1}, (), ())):
            self.told(False, CASE, (2, (1,)), value)
        # Of the base, or broken, or loose: never tight.
        self.told(False, CASE, (2, (0,)), ("tight", {2: 1}, ()))
        self.told(False, CASE, (0, (1,)), ("tight", {0: 0}, ()))
        self.told(False, CASE, (1, (0,)), ("tight", {1: 0}, ()))
        self.told(False, OVER, (2, (0, 1)), ("tight", {2: 0}, ((0, 2, 1, 3), (1, 2, 0, 3))))

    def test_tight_with_several_others(self):
        saying, ground = (3, (0, 1)), {2: 0, 3: 1}
        rows = plain.all_orders(OVER)
        rights = self.all_told(OVER, saying, *[("tight", ground, (one, other)) for one in rows for other in rows])
        self.assertGreater(rights.count(True), 0)
        self.assertGreater(rights.count(False), 0)
        first, second = find_standing(OVER, saying)[2]
        for orders in ((first,), (), (second, first), (first, second, second), [first, second], (first, None), (list(first), second),
                       (first, second[:3]), (first, first), (second, second), None, ((first, second),), {first: second}, (first, ()),
                       (first, tuple(map(str, second))), (True, False), (first, tuple(bool(s) if s < 2 else s for s in second))):
            self.told(False, OVER, saying, ("tight", ground, orders))
        for other in ({3: 1}, {2: 0}, {2: 0, 3: 0}, {2: 1, 3: 1}, {}, {2: 0, 3: 1, 0: 0}):
            self.told(False, OVER, saying, ("tight", other, (first, second)))
        # A saying that is loose, however it is shown to follow.
        for rows in ((first, second), (second, first), (first, first), ()):
            self.told(False, OVER, (3, (0, 2)), ("tight", {3: 1}, rows))

    def test_book(self):
        self.told(True, CASE, (2, (0,)), ("book", {2: ("cell", (0, 0))}, ((1, 0, 2),)))
        for value in (("book", {2: ("cell", (0, 0))}, ()), ("book", {2: ("cell", (0, 0))}, [(1, 0, 2)]), ("book", {}, ((1, 0, 2),)),
                      ("book", {2: ("cell", (0, 0))}, ((0, 1, 2),)), ("book", {2: ("cell", (0, 2))}, ((1, 0, 2),)),
                      ("book", {2: ("cell", (0, False))}, ((1, 0, 2),)), ("book", {2: ("cell", (0, 0)), 0: ("cell", (0, 0))}, ((1, 0, 2),)),
                      ("book", {2: ("cell", (0, 0))}, ((1, 0, 2), (1, 0, 2))), ("book", {2: ("cell", (0, 0))}, (1, 0, 2)),
                      ("book", {2: ("cell", (0, 0))}, ((True, 0, 2),)), ("book", {2: 1}, ((1, 0, 2),)), ("tight", {2: ("cell", (0, 0))}, ((1, 0, 2),)),
                      ("book", {2: ("cell", (0, 0))}), ("book", ((1, 0, 2),), {2: ("cell", (0, 0))}), ["book", {2: ("cell", (0, 0))}, ((1, 0, 2),)],
                      ("book", {2: ["cell", (0, 0)]}, ((1, 0, 2),)), ("book", {"2": ("cell", (0, 0))}, ((1, 0, 2),)), ("book", None, None),
                      ("book", {2: ("cell", (0, 0))}, ((1, 0, 2),), ()), ("book", {2: ("cell", (0, 0)), 3: ("cell", (0, 0))}, ((1, 0, 2),)),
                      ("book", {2: ("cell", (0, 0))}, ((1, 0),)), ("book", {2: ("cell", (0, 0))}, (None,)), ("book", [2], ((1, 0, 2),))):
            self.told(False, CASE, (2, (0,)), value)
        for saying in ((2, (1,)), (0, (1,)), (1, (0,)), (2, (0, 1)), (0, (2,))):
            self.told(False, CASE, saying, ("book", {2: ("cell", (0, 0))}, ((1, 0, 2),)))

    def test_the_orders_of_a_book_standing(self):
        saying, jam = (4, (2, 3)), {4: ("saying", 2)}
        for one, other, right in (((0, 1, 2, 4, 3), (0, 1, 3, 4, 2), True), ((1, 0, 2, 4, 3), (1, 0, 3, 4, 2), True),
                                  ((0, 1, 2, 4, 3), (1, 0, 3, 4, 2), False), ((0, 2, 4, 1, 3), (0, 1, 3, 4, 2), False),
                                  ((0, 2, 4, 1, 3), (1, 3, 4, 0, 2), False), ((0, 1, 3, 4, 2), (0, 1, 2, 4, 3), False),
                                  ((0, 1, 2, 4, 3), (0, 1, 2, 4, 3), False), ((0, 1, 2, 3, 4), (0, 1, 3, 2, 4), False),
                                  ((0, 1, 2, 4, 3), (0, 1, 3, 2, 4), False), ((2, 4, 0, 1, 3), (3, 4, 0, 1, 2), False)):
            self.told(right, BEHIND, saying, ("book", jam, (one, other)))
        orders = plain.all_orders(BEHIND)
        rng = random.Random(224)
        values = [("book", jam, (rng.choice(orders), rng.choice(orders))) for _ in range(200)]
        values += [("book", jam, (one, other)) for one in orders for other in orders if one[:2] == other[:2] and one[3] == other[3] == 4]
        self.assertIn(True, self.all_told(BEHIND, saying, *values))

    def test_a_top_set_that_is_too_small_or_too_large(self):
        # 3 lies under 2 in the base; ahead of it 0 and 1 may lie, but only one top set shows it.
        orders = plain.all_orders(OVER)
        jams = [{3: ("saying", 1)}, {3: ("saying", 1), 2: ("saying", 0)}]
        rights = self.all_told(OVER, (3, (2,)), *[("book", jam, (order,)) for jam in jams for order in orders])
        self.assertEqual(rights.count(True), 2)

    def test_one_sheet(self):
        self.told(False, (ONE, {}, ()), (0, (1,)), ("broken", ()))

    def test_any_value(self):
        for value in WRONG:
            for case, saying in ((CASE, (1, (0,))), (CASE, (2, (0,))), (FREE, (0, (1,)))):
                self.told(False, case, saying, value)
            self.told(False, CASE, (1, (0,)), ("broken", value) if value != (1, 0, 2) else value)
            self.told(False, CASE, (1, (0,)), (value, (1, 0, 2)))
            self.told(False, CASE, (0, (1, 2)), ("loose", value, {0: ("cell", (0, 1))}))
            self.told(False, CASE, (0, (1, 2)), ("loose", 2, value))
            self.told(False, CASE, (2, (1,)), ("tight", value, ()))
            self.told(False, CASE, (2, (1,)), ("tight", {0: 0, 2: 1}, value) if repr(value) != "()" else value)
            self.told(False, OVER, (3, (0, 1)), ("tight", {2: 0, 3: 1}, (value, value)))
            self.told(False, CASE, (2, (0,)), ("book", value, ((1, 0, 2),)))
            self.told(False, CASE, (2, (0,)), ("book", {2: ("cell", (0, 0))}, value))
            self.told(False, CASE, (2, (0,)), ("book", {2: ("cell", (0, 0))}, (value,)) if value != (1, 0, 2) else value)

    def test_changed_in_one_place_or_of_another_saying(self):
        tally = {kind: [0, 0] for kind in ("broken", "loose", "tight", "book")}
        rng = random.Random(225)
        for case, orders in met_cases(226, 200):
            known = plain.all_sayings(case[0])
            for saying in rng.sample(known, min(len(known), 12)):
                found = find_standing(case, saying)
                other = rng.choice(known)
                for about, value in ((saying, changed_once(rng, found)), (other, found)):
                    right = plain_books.standing_holds(case, orders, about, value)
                    tally[found[0]][right] += 1
                    self.told(right, case, about, value)
        self.assertGreater(min(many for kind in tally.values() for many in kind), 1, tally)

    def test_other_parts_that_are_right(self):
        rng = random.Random(227)
        tally = [0, 0]
        for case, orders in met_cases(228, 250):
            for saying in plain.all_sayings(case[0]):
                found = find_standing(case, saying)
                if found[0] in ("tight", "book") and found[2] != ():
                    rows = tuple(rng.choice(orders) for _ in saying[1])
                    more = found[1]
                    if found[0] == "book":
                        more = {t: rng.choice(plain.reasons(case, t, range(len(orders[0])))) for t in more}
                    value = (found[0], more, rng.choice([found[2], rows]))
                    right = plain_books.standing_holds(case, orders, saying, value)
                    tally[right] += 1
                    self.told(right, case, saying, value)
        self.assertGreater(min(tally), 30, tally)


if __name__ == "__main__":
    unittest.main()
