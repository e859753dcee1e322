import random
import unittest
from math import factorial

from laidsheets.counts import count_orders
from laidsheets.jams import is_jam
from laidsheets.loose import (case_at, count_placings, find_bars, find_placing, is_bars, is_loose, is_loose_case,
                              sure_spots)
from laidsheets.orders import is_order
from laidsheets.piles import is_case
from tests import plain
from tests.calls import call
from tests.samples import ASKED, BARRED, LOOSE, PILE, WRONG, changed_once, some_loose, some_loose_cases

TOP, SIDE = ((0, 0), (0, 1)), ((0, 1), (0, 1))
BARS = {TOP: ("jam", {0: ("cell", (0, 0))}), SIDE: ("bare", (0, 0))}
FREE = (LOOSE, {}, ())
DOT = (1, 1, ((((0, 0),), ("a",)),))
SPOTS = ((0, 0), (0, 1), (0, 2), (0, 3))
# Ten sheets, of which three have 4, 4 and 3 spots: 48 placings.
WIDE = (1, 6, tuple((SPOTS[:many], ("ab" if many > 1 else "a",)) for many in (4, 1, 1, 4, 1, 1, 3, 1, 1, 1)))


class Told(unittest.TestCase):
    def told(self, expected, function, *arguments):
        self.assertIs(call(self, function, *arguments), expected, repr(arguments)[:400])


class LoosePiles(Told):
    def test_ordinary(self):
        for value in (LOOSE, DOT, WIDE, (8, 8, ((((0, 0), (7, 7)), ("z",)),))):
            self.told(True, is_loose, value)

    def test_how_many_spots(self):
        for many in range(6):
            spots = tuple((0, column) for column in range(many))
            self.told(1 <= many <= 4, is_loose, (1, 8, ((spots, ("a",)),)))

    def test_how_many_placings(self):
        for manies, right in (((4, 4, 3), True), ((4, 4, 4), False), ((2, 2, 2, 2, 3), True), ((2, 2, 2, 2, 4), False),
                              ((3, 4, 4, 1), True), ((3, 4, 4, 2), False), ((1,) * 10, True), ((2,) * 5, True), ((2,) * 6, False),
                              ((3, 3, 3), True), ((3, 3, 3, 2), False), ((4, 3, 2, 2), True), ((3,) * 4, False), ((4,) * 10, False)):
            loose = tuple((SPOTS[:many], ("a",)) for many in manies)
            self.told(right, is_loose, (1, 4, loose))

    def test_how_many_sheets(self):
        for many in (0, 1, 2, 9, 10, 11, 12):
            self.told(1 <= many <= 10, is_loose, (1, 1, ((((0, 0),), ("a",)),) * many))

    def test_spots_on_the_board(self):
        for row in range(-1, 4):
            for column in range(-1, 4):
                spots = tuple(sorted([(row, column), (1, 1)])) if (row, column) != (1, 1) else ((1, 1),)
                self.told(0 <= row <= 1 and 0 <= column <= 2, is_loose, (3, 4, ((spots, ("a.", "..")),)))

    def test_spots_ascend(self):
        for spots, right in ((((0, 0), (0, 1)), True), (((0, 1), (0, 0)), False), (((0, 0), (0, 0)), False),
                             (((0, 1), (1, 0)), True), (((1, 0), (0, 1)), False), (((0, 0), (0, 1), (1, 1)), True),
                             (((0, 0), (1, 1), (0, 1)), False), (((0, 0), (0, 1), (0, 1)), False)):
            self.told(right, is_loose, (2, 2, ((spots, ("a",)),)))

    def test_boards(self):
        for side in (-1, 0, 1, 2, 8, 9, 10 ** 29, True, None, "1", (1,), [1], {}):
            right = type(side) is int and 1 <= side <= 8
            self.told(right, is_loose, (side, 1, ((((0, 0),), ("a",)),)))
            self.told(right, is_loose, (1, side, ((((0, 0),), ("a",)),)))

    def test_other_kinds(self):
        for item in (((0, 0), ("a",)), ([(0, 0)], ("a",)), ((), ("a",)), (((0, 0),), "a"), (((0, 0),), ["a"]), (((0, 0),), ()),
                     (((0, 0),), (".",)), (((0, 0),), ("",)), (((0, 0),), ("A",)), (((0, 0),), ("a", "bb")), (((0, 0),),),
                     (((0, 0),), ("a",), ()), [((0, 0),), ("a",)], (("a",), ((0, 0),)), ((([0, 0]),), ("a",)), (((0,),), ("a",)),
                     (((0, 0, 0),), ("a",)), (((False, 0),), ("a",)), (((0, False),), ("a",)), (((0, "0"),), ("a",)),
                     (((0, None),), ("a",)), ((None,), ("a",)), (None, ("a",)), (0, 0, ("a",)), "a", None, (), {}, 0,
                     ({(0, 0): 0}, ("a",)), ("00", ("a",)), (((0, 0), None), ("a",)), (((0, 0), (0, True)), ("a",))):
            self.told(False, is_loose, (2, 2, (item,)))
            self.told(False, is_loose, (2, 2, ((((0, 0),), ("a",)), item)))
        for value in ((1, 1), (1, 1, DOT[2], ()), [1, 1, DOT[2]], (1, 1, list(DOT[2])), (1, 1, DOT[2][0]), (1, 1, {}), PILE):
            self.told(False, is_loose, value)

    def test_any_value(self):
        for value in WRONG:
            self.told(False, is_loose, value)
            self.told(False, is_loose, (1, 3, value))
            self.told(False, is_loose, (1, 3, (value,)))
            self.told(False, is_loose, (1, 3, ((value, ("a",)),)))
            self.told(False, is_loose, (1, 3, (((value,), ("a",)),)))
            self.told(value == ("a",), is_loose, (1, 3, ((((0, 0),), value),)))

    def test_changed_in_one_place(self):
        rng = random.Random(131)
        tally = [0, 0]
        for number in range(4000):
            loose = (LOOSE, some_loose(rng, 4))[number % 2]
            value = changed_once(rng, loose)
            tally[plain.loose_holds(value)] += 1
            self.told(plain.loose_holds(value), is_loose, value)
            self.told(True, is_loose, loose)
        self.assertGreater(min(tally), 400, tally)


class LooseCases(Told):
    def test_ordinary(self):
        for value in (ASKED, BARRED, FREE, (DOT, {(0, 0): ""}, ()), (LOOSE, {(0, 2): "az"}, ((0, (1,)), (1, (0,))))):
            self.told(True, is_loose_case, value)

    def test_any_cells_of_the_board(self):
        pile = (3, 3, ((((0, 0), (1, 1)), ("a",)),))
        for row in range(-2, 5):
            for column in range(-2, 5):
                self.told(0 <= row <= 2 and 0 <= column <= 2, is_loose_case, (pile, {(row, column): "a"}, ()))

    def test_wrong_views(self):
        for cell in ((False, 0), (0, True), (0,), (0, 0, 0), (), 0, None, "00", ((0, 0),), True, ("0", "0"), (None, None)):
            self.told(False, is_loose_case, (LOOSE, {cell: "a"}, ()))
            self.told(False, is_loose_case, (LOOSE, {(0, 2): "a", cell: "a"}, ()))
        for reading in ("ba", "aa", "A", ".", None, 0, True, ("a",), ["a"], (), {}, "a ", "`", "{"):
            self.told(False, is_loose_case, (LOOSE, {(0, 0): reading}, ()))
        for view in ((), [], None, [((0, 0), "a")], (((0, 0), "a"),), "", 0):
            self.told(False, is_loose_case, (LOOSE, view, ()))

    def test_sayings(self):
        for many in range(9):
            self.told(many <= 6, is_loose_case, (LOOSE, {}, ((0, (1,)),) * many))
        for saying in ((0, (0,)), (2, (0,)), (0, (2,)), (-1, (0,)), (0, ()), (0, (1, 1)), (False, (1,)), (0, (True,)), (0, [1]),
                       [0, (1,)], (0, 1), (0,), (), None, (0, (1,), ()), 0, "01"):
            self.told(False, is_loose_case, (LOOSE, {}, (saying,)))
            self.told(False, is_loose_case, (LOOSE, {}, ((1, (0,)), saying)))
        for sayings in ([], {}, None, [(0, (1,))], (0, (1,)), "", 0):
            self.told(False, is_loose_case, (LOOSE, {}, sayings))
        self.told(True, is_loose_case, (WIDE, {}, ((9, tuple(range(9))), (0, (9,)))))
        self.told(False, is_loose_case, (WIDE, {}, ((9, tuple(range(9))), (0, (10,)))))

    def test_other_kinds(self):
        for value in ((LOOSE, {}), (LOOSE, {}, (), ()), [LOOSE, {}, ()], (PILE, {}, ()), ({}, LOOSE, ()), ((1, 1, ()), {}, ()),
                      (list(LOOSE), {}, ()), LOOSE, None, (ASKED, {}, ())):
            self.told(False, is_loose_case, value)

    def test_any_value(self):
        for value in WRONG:
            self.told(False, is_loose_case, value)
            self.told(False, is_loose_case, (value, {}, ()))
            self.told(value == {}, is_loose_case, (LOOSE, value, ()))
            self.told(value == (), is_loose_case, (LOOSE, {}, value))
            self.told(value == (0, (1,)), is_loose_case, (LOOSE, {}, (value,)))

    def test_changed_in_one_place(self):
        rng = random.Random(132)
        tally = [0, 0]
        for case in some_loose_cases(133, 3500):
            self.told(True, is_loose_case, case)
            value = changed_once(rng, case)
            tally[plain.loose_case_holds(value)] += 1
            self.told(plain.loose_case_holds(value), is_loose_case, value)
        self.assertGreater(min(tally), 400, tally)


class Found(unittest.TestCase):
    def told(self, case, counts):
        """Tests that a right placing is found, or bars, whichever there is; and tells how many are right."""
        self.assertEqual(call(self, count_placings, case), counts, case)
        found, bars = call(self, find_placing, case), call(self, find_bars, case)
        self.assertEqual(found is not None, counts[0] > 0)
        self.assertEqual(bars is None, counts[0] > 0)
        if bars is not None:
            self.assertEqual(sorted(bars), plain.placings(case))
            self.assertIs(call(self, is_bars, case, bars), True)
        else:
            placing, order = found
            self.assertIn(placing, plain.placings(case))
            self.assertIs(is_order(case_at(case, placing), order), True)

    def test_ordinary(self):
        self.told(ASKED, (1, 1))
        self.told(BARRED, (0, 0))
        self.told(FREE, (2, 4))
        self.told((LOOSE, {(0, 2): "a"}, ()), (1, 1))
        self.told((LOOSE, {(0, 1): "a"}, ((0, (1,)),)), (0, 0))
        self.assertEqual(find_placing(ASKED), (TOP, (1, 0)))
        self.assertEqual(find_bars(BARRED), BARS)

    def test_one_placing(self):
        self.told((DOT, {}, ()), (1, 1))
        self.told((DOT, {(0, 0): "a"}, ()), (1, 1))
        self.told((DOT, {(0, 0): "b"}, ()), (0, 0))
        self.assertEqual(find_bars((DOT, {(0, 0): "b"}, ())), {((0, 0),): ("jam", {0: ("cell", (0, 0))})})

    def test_bare_at_all_placings(self):
        pile = (2, 2, ((((0, 0), (0, 1)), ("a",)),))
        self.told((pile, {(1, 1): "a"}, ()), (0, 0))
        self.assertEqual(find_bars((pile, {(1, 1): ""}, ())), {(spot,): ("bare", (1, 1)) for spot in pile[2][0][0]})
        self.told((pile, {(0, 0): "a", (0, 1): "a"}, ()), (0, 0))
        self.assertEqual(find_bars((pile, {(0, 0): "a", (0, 1): "a"}, ())),
                         {((0, 0),): ("bare", (0, 1)), ((0, 1),): ("bare", (0, 0))})
        self.told((pile, {(0, 0): "a"}, ()), (1, 1))
        self.told((pile, {}, ()), (2, 2))

    def test_sayings_hold_at_all_placings(self):
        self.told((LOOSE, {}, ((0, (1,)), (1, (0,)))), (0, 0))
        self.told((LOOSE, {}, ((0, (1,)),)), (2, 2))

    def test_four_spots_and_48_placings(self):
        pile = (1, 5, ((SPOTS, ("ab",)), (SPOTS, ("ba",)), (SPOTS[:3], ("c",))))
        self.told((pile, {}, ()), (48, 48 * 6))
        # Sheet 1 at its last spot; where sheet 0 is at its last one, too, sheet 1 lies above it in half of the orders.
        self.told((pile, {(0, 4): "a"}, ()), (12, 9 * 6 + 3 * 3))
        self.told((pile, {(0, 0): "c", (0, 4): "b"}, ()), (4, 2 * 6 + 2 * 3))
        self.told((pile, {(0, 0): "d"}, ()), (0, 0))

    def test_by_the_document(self):
        tally = {}
        for number, case in enumerate(some_loose_cases(134, 500)):
            right = plain.right_ones(case)
            self.told(case, (len(right), sum(map(len, right.values()))))
            found = find_placing(case)
            if right:
                self.assertIn(found[1], right[found[0]])
            elif number % 2:
                self.assertTrue(plain.bars_hold(case, find_bars(case)))
            spots = [sorted({placing[s] for placing in right}) for s in range(len(case[0][2]))]
            self.assertEqual(call(self, sure_spots, case), spots)
            for placing in plain.placings(case)[:6]:
                self.told_case(case, placing)
            kind = "none" if not right else "all" if len(right) == len(plain.placings(case)) else "some"
            tally[kind] = tally.get(kind, 0) + 1
            if any(plain.bare_cells(case, placing) for placing in plain.placings(case)):
                tally["bare"] = tally.get("bare", 0) + 1
        self.assertGreater(min(tally[kind] for kind in ("none", "all", "some", "bare")), 60, tally)

    def told_case(self, case, placing):
        expected = None
        if not plain.bare_cells(case, placing):
            expected = (plain.pile_at(case, placing), case[1], case[2])
            self.assertIs(is_case(expected), True)
        self.assertEqual(call(self, case_at, case, placing), expected)

    def test_case_at(self):
        self.told_case(ASKED, TOP)
        self.told_case(ASKED, SIDE)
        self.assertEqual(case_at(FREE, SIDE), ((1, 3, ((0, 1, ("aa",)), (0, 1, ("bb",)))), {}, ()))
        self.assertIsNone(case_at(BARRED, SIDE))
        self.assertIsNot(case_at(ASKED, TOP)[1], ASKED[1])

    def test_sure_spots(self):
        self.assertEqual(call(self, sure_spots, ASKED), [[(0, 0)], [(0, 1)]])
        self.assertEqual(call(self, sure_spots, FREE), [[(0, 0), (0, 1)], [(0, 1)]])
        self.assertEqual(call(self, sure_spots, BARRED), [[], []])
        self.assertEqual(call(self, sure_spots, (WIDE, {(0, 4): "b"}, ())),
                         [list(item[0]) for item in WIDE[2]][:6] + [list(SPOTS[:3])] + [[(0, 0)]] * 3)

    def test_ten_sheets(self):
        self.told((WIDE, {}, ()), (48, 48 * factorial(10)))
        self.told((WIDE, {}, ((0, (1,)),)), (48, 24 * factorial(10)))
        self.told((WIDE, {(0, 5): "a"}, ()), (0, 0))
        self.told((WIDE, {(0, 0): "z"}, ()), (0, 0))
        self.assertEqual(call(self, sure_spots, (WIDE, {}, ())), [list(item[0]) for item in WIDE[2]])

    def test_large_boards(self):
        tally = [0, 0]
        for case in some_loose_cases(135, 40, 10, 8):
            counts = call(self, count_placings, case)
            tally[counts[0] > 0] += 1
            self.told(case, counts)
            spots = call(self, sure_spots, case)
            self.assertEqual([one != [] for one in spots], [counts[0] > 0] * len(spots))
            cases = [case_at(case, placing) for placing in plain.placings(case)]
            self.assertEqual(sum(count_orders(one) for one in cases if one is not None), counts[1])
        self.assertGreater(min(tally), 8, tally)

    def test_beyond_the_limits_raises_nothing(self):
        pile = (1, 9, ((tuple((0, column) for column in range(5)), ("a",)),) + ((((0, 8),), ("b",)),) * 10)
        self.assertEqual(count_placings((pile, {}, ())), (5, 5 * factorial(11)))


class IsBars(Told):
    def right(self, expected, case, value):
        self.told(expected, is_bars, case, value)

    def test_ordinary(self):
        self.right(True, BARRED, BARS)
        self.right(False, FREE, BARS)
        self.right(False, ASKED, BARS)
        self.right(True, (DOT, {(0, 0): "b"}, ()), {((0, 0),): ("jam", {0: ("cell", (0, 0))})})
        self.right(False, (DOT, {(0, 0): "a"}, ()), {((0, 0),): ("jam", {0: ("cell", (0, 0))})})

    def test_each_placing(self):
        self.right(False, BARRED, {TOP: BARS[TOP]})
        self.right(False, BARRED, {SIDE: BARS[SIDE]})
        self.right(False, BARRED, {})
        for more in (((0, 0), (0, 0)), ((0, 2), (0, 1)), ((0, 0),), (), ((0, 0), (0, 1), (0, 0))):
            self.right(False, BARRED, {**BARS, more: ("bare", (0, 0))})
            self.right(False, BARRED, {TOP: BARS[TOP], more: BARS[SIDE]})

    def test_keys_of_other_kinds(self):
        for key in (((0, True), (0, 1)), ((0, 1), (0, True)), ((False, 1), (0, 1)), None, 0, "", (None, None), ((0, 1), None),
                    (0, 1), ((0, 1, 0), (0, 1)), (((0, 1),), ((0, 1),)), ("01", "01"), (((0, 1), (0, 1)),)):
            self.right(False, BARRED, {TOP: BARS[TOP], key: BARS[SIDE]})
        self.right(False, BARRED, {((0, False), (0, 1)): BARS[TOP], SIDE: BARS[SIDE]})

    def test_bare(self):
        for cell in ((0, 1), (0, 2), (0, 3), (1, 0), (-1, 0), [0, 0], (0,), (False, 0), (0, False), None, 0, "00", (), {},
                     (0, 0, 0), ((0, 0),)):
            self.right(False, BARRED, {**BARS, SIDE: ("bare", cell)})
        self.right(False, BARRED, {**BARS, TOP: ("bare", (0, 0))})
        self.right(False, (LOOSE, {(0, 0): "b", (0, 2): "b"}, ()), {**BARS, TOP: ("bare", (0, 2))})
        case = ((2, 2, ((((0, 0), (0, 1)), ("a",)),)), {(1, 0): "a", (1, 1): "", (0, 0): "a"}, ())
        first, second = ((0, 0),), ((0, 1),)
        for cell in ((1, 0), (1, 1), (0, 0), (0, 1)):
            self.right(cell[0] == 1, case, {first: ("bare", cell), second: ("bare", (1, 0))})
            self.right(cell != (0, 1), case, {first: ("bare", (1, 1)), second: ("bare", cell)})

    def test_a_jam_only_where_it_is_not_bare(self):
        case = ((1, 2, ((((0, 0), (0, 1)), ("a",)),)), {(0, 0): "b"}, ())
        jam = {0: ("cell", (0, 0))}
        self.right(True, case, {((0, 0),): ("jam", jam), ((0, 1),): ("bare", (0, 0))})
        self.right(False, case, {((0, 0),): ("jam", jam), ((0, 1),): ("jam", jam)})
        both = (LOOSE, {(0, 0): "a"}, ((0, (1,)), (1, (0,))))
        jam = {0: ("saying", 0), 1: ("saying", 1)}
        self.right(True, both, {TOP: ("jam", jam), SIDE: ("bare", (0, 0))})
        self.right(False, both, {TOP: ("jam", jam), SIDE: ("jam", jam)})
        self.right(True, (LOOSE, {(0, 1): "a"}, both[2]), {TOP: ("jam", jam), SIDE: ("jam", jam)})

    def test_jams(self):
        for jam in ({}, {0: ("cell", (0, 1))}, {1: ("cell", (0, 0))}, {0: ("cell", (0, 0)), 1: ("cell", (0, 1))}, None, [], (),
                    {False: ("cell", (0, 0))}, {0: ["cell", (0, 0)]}, {0: ("cell", (0, False))}, {0: ("saying", 0)},
                    {0: ("cell", (0, 0)), 2: ("cell", (0, 0))}, ("cell", (0, 0)), 0, "jam"):
            self.assertIs(is_jam(case_at(BARRED, TOP), jam), False)
            self.right(False, BARRED, {**BARS, TOP: ("jam", jam)})

    def test_other_kinds(self):
        for bar in (("Bare", (0, 0)), ("", (0, 0)), (None, (0, 0)), ["bare", (0, 0)], ("bare",), ("bare", (0, 0), ()), (0, 0), None,
                    "bare", ((0, 0), "bare"), {"bare": (0, 0)}, (), ("jam", (0, 0)), (("bare",), (0, 0)), ({}, (0, 0))):
            self.right(False, BARRED, {**BARS, SIDE: bar})
        for bar in (("Jam", BARS[TOP][1]), ["jam", BARS[TOP][1]], BARS[TOP][1], (BARS[TOP][1], "jam"), ("jam",), ("bare", {}),
                    ("jam", BARS[TOP][1], 0), ("bare", BARS[TOP][1]), ("jam", [BARS[TOP][1]]), (None, BARS[TOP][1])):
            self.right(False, BARRED, {**BARS, TOP: bar})
        for value in (list(BARS), list(BARS.items()), [BARS], (BARS,), tuple(BARS.items()), None, 0, "", True, (), []):
            self.right(False, BARRED, value)

    def test_any_value(self):
        for value in WRONG:
            for case in (ASKED, BARRED, FREE):
                self.right(False, case, value)
                self.right(False, case, {TOP: value, SIDE: value})
                self.right(False, case, {**BARS, TOP: ("jam", value)})
                self.right(False, case, {**BARS, SIDE: ("bare", value)})
                self.right(False, case, {**BARS, SIDE: (value, (0, 0))})

    def test_changed_in_one_place(self):
        tally = [0, 0]
        rng = random.Random(136)
        for case in some_loose_cases(137, 900, 3):
            bars = find_bars(case)
            if bars is not None:
                for _ in range(5):
                    value = changed_once(rng, bars)
                    tally[plain.bars_hold(case, value)] += 1
                    self.right(plain.bars_hold(case, value), case, value)
        self.assertGreater(min(tally), 30, tally)

    def test_other_bars(self):
        tally = [0, 0]
        rng = random.Random(138)
        for case in some_loose_cases(139, 900, 3):
            bars = find_bars(case)
            if bars is not None:
                jams = [bar[1] for bar in bars.values() if bar[0] == "jam"] + [{0: ("saying", 0)}]
                for _ in range(3):
                    value = dict(bars)
                    for placing in value:
                        if rng.random() < 0.5:
                            cells = list(case[1]) + [(0, 0)]
                            value[placing] = rng.choice([("jam", rng.choice(jams)), ("bare", rng.choice(cells))])
                    tally[plain.bars_hold(case, value)] += 1
                    self.right(plain.bars_hold(case, value), case, value)
        self.assertGreater(min(tally), 60, tally)


if __name__ == "__main__":
    unittest.main()
