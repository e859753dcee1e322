import random
import unittest

from laidsheets.piles import covered, is_case, is_pile, is_saying, is_view
from tests import plain
from tests.calls import call
from tests.samples import BOARD, CASE, JAMMED, ONE, PILE, TEN, WRONG, changed_once, some_cases, some_pile

LETTERS = "abcdefghijklmnopqrstuvwxyz"


class Told(unittest.TestCase):
    """A test that asks functions which tell True or False."""

    def told(self, expected, function, *arguments):
        self.assertIs(call(self, function, *arguments), expected, repr(arguments)[:400])


class Piles(Told):
    def test_ordinary(self):
        for pile in (PILE, ONE, TEN, BOARD):
            self.told(True, is_pile, pile)

    def test_boards(self):
        for side, right in ((-1, False), (0, False), (1, True), (2, True), (8, True), (9, False), (10 ** 29, False)):
            self.told(right, is_pile, (side, 1, ((0, 0, ("a",)),)))
            self.told(right, is_pile, (1, side, ((0, 0, ("a",)),)))
        self.told(True, is_pile, (1, 8, ((0, 0, ("abcdefgh",)),)))
        self.told(True, is_pile, (8, 1, ((0, 0, ("a",) * 8),)))
        self.told(True, is_pile, (8, 8, ((0, 0, ("........",) * 7 + (".......a",)),)))
        self.told(False, is_pile, (1, 9, ((0, 0, ("abcdefghi",)),)))
        self.told(False, is_pile, (9, 1, ((0, 0, ("a",) * 9),)))

    def test_board_of_another_kind(self):
        for side in (True, "1", None, (1,), [1], {1: 1}):
            self.told(False, is_pile, (side, 1, ((0, 0, ("a",)),)))
            self.told(False, is_pile, (1, side, ((0, 0, ("a",)),)))

    def test_how_many_sheets(self):
        for many, right in ((0, False), (1, True), (2, True), (10, True), (11, False), (12, False)):
            self.told(right, is_pile, (2, 2, ((1, 1, ("a",)),) * many))
        self.told(False, is_pile, (1, 1, [(0, 0, ("a",))]))
        self.told(False, is_pile, (1, 1, {(0, 0, ("a",)): 0}))
        self.told(False, is_pile, (1, 1, "a"))

    def test_places_on_the_board(self):
        picture = ("ab", ".c", "d.")
        for row in range(-2, 8):
            for column in range(-2, 8):
                right = 0 <= row <= 3 and 0 <= column <= 2
                self.told(right, is_pile, (6, 4, ((row, column, picture),)))
        self.told(True, is_pile, (8, 8, ((7, 7, ("a",)),)))
        self.told(False, is_pile, (8, 8, ((7, 8, ("a",)),)))
        self.told(False, is_pile, (8, 8, ((8, 7, ("a",)),)))

    def test_holes_count_for_the_place(self):
        self.told(True, is_pile, (1, 3, ((0, 1, ("a.",)),)))
        self.told(False, is_pile, (1, 3, ((0, 2, ("a.",)),)))
        self.told(False, is_pile, (1, 3, ((0, -1, (".a",)),)))
        self.told(False, is_pile, (2, 1, ((1, 0, ("a", ".")),)))

    def test_place_of_another_kind(self):
        for wrong in (False, True, "0", None, (0,), [0]):
            self.told(False, is_pile, (2, 2, ((wrong, 0, ("a",)),)))
            self.told(False, is_pile, (2, 2, ((0, wrong, ("a",)),)))

    def test_pictures(self):
        for picture in (("a",), ("z",), (".a",), ("a.", ".."), ("..", ".z"), tuple(LETTERS[:8]), ("ab", "cd", "aa")):
            self.told(True, is_pile, (8, 8, ((0, 0, picture),)))

    def test_wrong_pictures(self):
        for picture in ((), ("",), ("", ""), (".",), ("..", ".."), ("ab", "c"), ("c", "ab"), ("ab", ""), ("", "ab"),
                        ("A",), ("aB",), ("a", "B"), ("a b",), ("a-",), ("a0",), ("`",), ("{",), ("\u00e4",), ("a\n",),
                        "a", "ab", ["a"], {"a": "a"}, (("a",),), (b"a",), ("a", None), (None, "a"), ("a", 1),
                        (1,), (("a", "b"),), ("a", ["b"]), ("ab", ("a", "b"))):
            self.told(False, is_pile, (8, 8, ((0, 0, picture),)))

    def test_wrong_lengths(self):
        sheet = (0, 0, ("a",))
        for value in ((1, 1), (1, 1, (sheet,), ()), (1, (sheet,)), [1, 1, (sheet,)], (1, 1, sheet),
                      (1, 1, (sheet[:2],)), (1, 1, (sheet + (0,),)), (1, 1, (list(sheet),)), (1, 1, (sheet, ()))):
            self.told(False, is_pile, value)

    def test_any_value(self):
        for value in WRONG:
            self.told(False, is_pile, value)
            self.told(False, is_pile, (1, 1, value))
            self.told(False, is_pile, (1, 1, (value,)))
            self.told(False, is_pile, (1, 3, PILE[2] + (value,)))

    def test_changed_in_one_place(self):
        rng = random.Random(4)
        right = 0
        for number in range(4000):
            pile = (PILE, TEN, some_pile(rng, 4))[number % 3]
            value = changed_once(rng, pile)
            right += plain.pile_holds(value)
            self.told(plain.pile_holds(value), is_pile, value)
        self.assertTrue(400 < right < 3600, right)


class Views(Told):
    def test_ordinary(self):
        for view in ({}, {(0, 0): "a"}, {(0, 2): "abz", (0, 0): ""}, {(0, 0): LETTERS, (0, 1): "z", (0, 2): "bd"}):
            self.told(True, is_view, PILE, view)

    def test_cells(self):
        pile = (2, 2, ((0, 0, (".a",)), (1, 0, ("b.",))))
        for row in range(-2, 4):
            for column in range(-2, 4):
                self.told((row, column) in ((0, 1), (1, 0)), is_view, pile, {(row, column): "a"})
        self.told(False, is_view, pile, {(0, 1): "a", (0, 0): "a"})
        for cell in ((7, 7), (0, 0), (0, 7), (3, 3), (4, 3)):
            self.told(True, is_view, BOARD, {cell: "m"})

    def test_cells_of_another_kind(self):
        pile = (2, 2, ((0, 0, ("ab", "cd")),))
        for cell in ((False, 0), (0, False), (True, 1), (1, True), (True, True), (0,), (0, 0, 0), (), 0, "00", None,
                     ((0, 0), 0), ((0, 0), (0, 0)), ("0", "0"), ("a", "b"), True, "cell"):
            self.told(False, is_view, pile, {cell: "a"})
            self.told(False, is_view, pile, {(1, 0): "c", cell: "a"})

    def test_readings(self):
        for reading in ("", "a", "z", "az", "abc", LETTERS):
            self.told(True, is_view, PILE, {(0, 1): reading})
        for reading in ("ba", "aa", "aba", "abb", "zz", "acb", LETTERS + "z", "A", "aB", ".", "a.", " a", "a ", "a0",
                        "`a", "az{", "\u00e4", None, True, 0, ("a",), ["a"], {"a": 1}, (), [], {}, b"a"):
            self.told(False, is_view, PILE, {(0, 1): reading})
            self.told(False, is_view, PILE, {(0, 0): "a", (0, 1): reading})

    def test_any_value(self):
        for value in WRONG:
            self.told(value == {}, is_view, PILE, value)
            self.told(False, is_view, PILE, {(0, 0): value} if value != "" and value != "a" else [])

    def test_no_dict(self):
        for value in ((), [], [((0, 0), "a")], (((0, 0), "a"),), ((0, 0), (0, 1)), "", None, False):
            self.told(False, is_view, PILE, value)


class Sayings(Told):
    def test_all_of_three(self):
        right = [(0, (1,)), (0, (2,)), (0, (1, 2)), (1, (0,)), (1, (2,)), (1, (0, 2)), (2, (0,)), (2, (1,)), (2, (0, 1))]
        for s in range(-1, 5):
            for first in range(-1, 5):
                self.told((s, (first,)) in right, is_saying, PILE, (s, (first,)))
                for second in range(-1, 5):
                    self.told((s, (first, second)) in right, is_saying, PILE, (s, (first, second)))

    def test_edges(self):
        self.told(True, is_saying, TEN, (9, (0, 1, 2, 3, 4, 5, 6, 7, 8)))
        self.told(True, is_saying, TEN, (4, (0, 9)))
        self.told(True, is_saying, TEN, (0, (9,)))
        self.told(False, is_saying, TEN, (10, (0,)))
        self.told(False, is_saying, TEN, (0, (10,)))
        self.told(False, is_saying, TEN, (0, (1, 10)))
        self.told(False, is_saying, TEN, (-1, (0,)))
        self.told(False, is_saying, TEN, (0, (-1, 1)))
        self.told(False, is_saying, ONE, (0, (0,)))
        self.told(False, is_saying, ONE, (0, (1,)))

    def test_wrong_others(self):
        for others in ((), (0,), (2, 1), (1, 1), (1, 2, 2), (1, 3, 2), (0, 1), (1, 0, 2), [1], [1, 2], {1: 2}, 1, "1",
                       None, (None,), ("1",), ((1,),), (True,), (True, 2), (1, None), ([],)):
            self.told(False, is_saying, PILE, (0, others))
        self.told(False, is_saying, PILE, (2, (False,)))
        self.told(False, is_saying, PILE, (2, (False, 1)))

    def test_wrong_sheet(self):
        for s in (True, None, "1", (1,), [1], 3, -1, -3, 10 ** 29):
            self.told(False, is_saying, PILE, (s, (0,)))
        self.told(False, is_saying, PILE, (False, (1,)))

    def test_wrong_lengths(self):
        for value in ((0,), (0, (1,), ()), [0, (1,)], ((1,), 0), {0: (1,)}, (), ((0, (1,)),)):
            self.told(False, is_saying, PILE, value)

    def test_any_value(self):
        for value in WRONG:
            self.told(value == (0, (1,)), is_saying, PILE, value)
            self.told(False, is_saying, PILE, (0, value) if value != (1, 2) else ())
            self.told(False, is_saying, PILE, (value, (2,)) if repr(value) not in ("0", "1") else ())
            self.told(False, is_saying, PILE, (2, (value,)) if repr(value) not in ("0", "1") else ())


class Cases(Told):
    def test_ordinary(self):
        for case in (CASE, JAMMED, (ONE, {}, ()), (ONE, {(0, 0): ""}, ()), (PILE, {}, ((0, (1,)), (1, (0,)))),
                     (TEN, {(0, 0): "xyz"}, ((0, (9,)), (5, tuple(range(5)))))):
            self.told(True, is_case, case)

    def test_how_many_sayings(self):
        for many in range(9):
            self.told(many <= 6, is_case, (PILE, {}, ((0, (1,)),) * many))
            self.told(many <= 6, is_case, (TEN, {}, tuple((s, (9,)) for s in range(many))))

    def test_wrong_parts(self):
        for case in (((1, 3, ()), {}, ()), (PILE, {(0, 3): "a"}, ()), (PILE, {(0, 0): "ba"}, ()),
                     (PILE, {(False, 0): "a"}, ()), (PILE, [], ()), (PILE, (), ()), (PILE, None, ()),
                     (PILE, {}, []), (PILE, {}, {}), (PILE, {}, None), (PILE, {}, ((0, (0,)),)),
                     (PILE, {}, ((0, (1,)), (3, (0,)))), (PILE, {}, ((0, (2, 1)),)), (PILE, {}, (0, (1,))),
                     (PILE, {}, ([0, (1,)],)), (PILE, {}, ((0, (1,)), None)), (ONE, {(0, 1): "a"}, ()),
                     (list(PILE), {}, ()), (PILE, {}), (PILE, {}, (), ()), [PILE, {}, ()], ({}, PILE, ()),
                     ((9, 3, PILE[2]), {}, ()), ((1, 3, PILE[2] * 4), {}, ()), (CASE, {}, ())):
            self.told(False, is_case, case)

    def test_any_value(self):
        for value in WRONG:
            self.told(False, is_case, value)
            self.told(False, is_case, (value, {}, ()))
            self.told(value == {}, is_case, (PILE, value, ()))
            self.told(value == (), is_case, (PILE, {}, value))
            self.told(value == (0, (1,)), is_case, (PILE, {}, (value,)))

    def test_changed_in_one_place(self):
        rng = random.Random(5)
        right = 0
        for case in some_cases(6, 5000) + [CASE, JAMMED] * 300:
            self.told(True, is_case, case)
            value = changed_once(rng, case)
            right += plain.case_holds(value)
            self.told(plain.case_holds(value), is_case, value)
        self.assertTrue(500 < right < 5000, right)

    def test_view_and_sayings_changed_in_one_place(self):
        rng = random.Random(7)
        right = [0, 0]
        for pile, view, sayings in some_cases(8, 4000):
            value = changed_once(rng, view)
            right[0] += plain.view_holds(pile, value)
            self.told(plain.view_holds(pile, value), is_view, pile, value)
            for saying in sayings:
                value = changed_once(rng, saying)
                right[1] += plain.saying_holds(pile, value)
                self.told(plain.saying_holds(pile, value), is_saying, pile, value)
        self.assertTrue(min(right) > 300, right)


class Covered(unittest.TestCase):
    def test_holes_are_not_covered(self):
        self.assertEqual(call(self, covered, (3, 3, ((0, 1, (".a", "b.")),))), {(0, 2): [(0, "a")], (1, 1): [(0, "b")]})

    def test_sheets_rise(self):
        pile = (1, 1, tuple((0, 0, (letter,)) for letter in "zyxwvutsra"))
        self.assertEqual(call(self, covered, pile), {(0, 0): list(enumerate("zyxwvutsra"))})

    def test_edges_of_the_board(self):
        cells = call(self, covered, BOARD)
        self.assertEqual(len(cells), 64)
        self.assertEqual(cells[(7, 7)], [(0, "a"), (1, "z")])
        self.assertEqual(cells[(0, 7)], [(0, "a"), (2, "m")])
        self.assertEqual([cell for cell in sorted(cells) if (3, "b") in cells[cell]], [(3, 4), (4, 3), (4, 5), (5, 4)])
        self.assertEqual(cells[(4, 4)], [(0, "a")])

    def test_two_equal_sheets(self):
        self.assertEqual(call(self, covered, (1, 2, ((0, 1, ("q",)),) * 2)), {(0, 1): [(0, "q"), (1, "q")]})

    def test_eleven_sheets_raise_nothing(self):
        self.assertEqual(call(self, covered, (9, 1, ((8, 0, ("a",)),) * 11)), {(8, 0): [(s, "a") for s in range(11)]})

    def test_by_the_document(self):
        rng = random.Random(9)
        for _ in range(500):
            pile = some_pile(rng, 10)
            self.assertEqual(call(self, covered, pile), plain.covered_cells(pile))


if __name__ == "__main__":
    unittest.main()
