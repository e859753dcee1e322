import random
import unittest
from time import perf_counter

from laidsheets.desk import Desk
from laidsheets.following import find_ground
from laidsheets.logs import log
from laidsheets.moverlogs import first_mover_fault, is_mover_log, mover_behind
from laidsheets.movers import Mover
from laidsheets.nearest import find_near_values
from tests import plain, plain_books, plain_movers
from tests.calls import LONGEST, call, exact
from tests.moving import moved, some_mover
from tests.samples import ONE, PILE, TEN, WRONG, changed_once, shown_at, some_pile, stacked

CALLS = [("say", (0, (1, 2))), ("read", (0, 0), "ab"), ("say", (0, (1,))), ("trim",), ("say", (2, (0,))), ("drop", 0), ("read", (0, 2), "c")]
LOG = moved(PILE, CALLS).log()
SAY = (("say", (0, (1,))), [(0, 1, 2), (1, 0, 2)], find_near_values((PILE, {}, ((0, (1,)),)), (0, 1, 2)))


class Logs(unittest.TestCase):
    def told(self, fault, pile, value):
        self.assertEqual(call(self, first_mover_fault, pile, value), fault, repr((pile, value))[:400])
        self.assertIs(call(self, is_mover_log, pile, value), fault is None, repr((pile, value))[:400])

    def by_the_document(self, pile, value):
        """Tests a list against what the document says, and returns whether it is right."""
        fault = plain_movers.first_fault(pile, value)
        self.told(fault, pile, value)
        return fault is None


class Ordinary(Logs):
    def test_logs_of_movers(self):
        for many in range(len(CALLS) + 1):
            mover = moved(PILE, CALLS[:many])
            self.assertEqual(mover.log(), LOG[:many])
            self.told(None, PILE, mover.log())
            self.assertEqual(call(self, mover_behind, PILE, mover.log()), (mover.case(), mover.order()))
        self.told(None, ONE, moved(ONE, [("read", (0, 0), "ab"), ("trim",)]).log())

    def test_mover_behind(self):
        self.assertEqual(call(self, mover_behind, PILE, [SAY]), ((PILE, {}, ((0, (1,)),)), (1, 0, 2)))
        self.assertEqual(call(self, mover_behind, PILE, []), ((PILE, {}, ()), (0, 1, 2)))
        self.assertEqual(call(self, mover_behind, PILE, [("trim", ())]), ((PILE, {}, ()), (0, 1, 2)))
        self.assertEqual(mover_behind(PILE, LOG[:4]), ((PILE, {(0, 0): "ab"}, ((0, (1,)),)), (1, 0, 2)))

    def test_trims(self):
        self.told(None, PILE, [SAY, ("trim", ())])
        self.told(1, PILE, [SAY, ("trim", ((0, (1,)),))])
        self.told(1, PILE, [SAY, ("trim", (((0, (1,)), {0: ("saying", 0)}),))])
        twice = moved(PILE, [("say", (0, (1,)))] * 3).log()
        pair = ((0, (1,)), {0: ("saying", 0)})
        self.told(None, PILE, twice + [("trim", (pair, pair))])
        for dropped in ((), (pair,), (pair,) * 3, [pair, pair], (pair, list(pair)), (pair, pair + ((),)), (pair, pair[:1]), (pair, pair[::-1]),
                        (pair, ((0, (1,)), {0: ("saying", 1)})), (((0, (1,)), {0: ("saying", 1)}), ((0, (1,)), {0: ("saying", 1)})), None, {},
                        (pair, (((0, (1,)), {False: ("saying", 0)}))), (pair, ((False, (1,)), {0: ("saying", 0)})), "", 2, pair,
                        (pair, ((0, (True,)), {0: ("saying", 0)})), (pair, ((0, [1]), {0: ("saying", 0)})), (pair, ((0, (1,)), {})),
                        (pair, ((0, (1,)), {0: ("saying", False)})), (pair, ((0, (2,)), {0: ("saying", 0)})), (pair, None), (pair, (0, (1,)))):
            self.told(3, PILE, twice + [("trim", dropped)])
        # The first drop leaves two equal sayings: the ground may name either one.
        self.told(None, PILE, twice + [("trim", (((0, (1,)), {0: ("saying", 1)}), pair))])
        for entry in (("trim",), ("trim", (pair, pair), ()), ["trim", (pair, pair)], ("Trim", (pair, pair)), ((pair, pair), "trim"),
                      (("trim",), (pair, pair)), ("trim", (pair, pair), [(1, 0, 2)])):
            self.told(3, PILE, twice + [entry])

    def test_the_row_in_which_sayings_go(self):
        calls = [("say", (0, (1, 2))), ("say", (0, (1,))), ("say", (1, (2,))), ("say", (0, (2,))), ("trim",)]
        entries = moved(PILE, calls).log()
        kind, (first, second) = entries[4]
        self.told(None, PILE, entries)
        self.told(4, PILE, entries[:4] + [(kind, (second, first))])
        self.told(4, PILE, entries[:4] + [(kind, (first,))])
        self.told(4, PILE, entries[:4] + [(kind, (second,))])
        # (0, (1, 2)) has a ground in the whole case that names the saying (0, (2,)), and one that names (0, (1,)).
        for i in (0, 1, 2, 3):
            self.by_the_document(PILE, entries[:4] + [(kind, (((0, (1, 2)), {0: ("saying", i)}), second))])
        self.told(4, PILE, entries[:4] + [(kind, (first, ((0, (2,)), {0: ("saying", 0)})))])

    def test_sayings_that_all_follow_from_the_others(self):
        entries = moved(PILE, [("read", (0, 0), "a"), ("say", (2, (0,))), ("trim",)]).log()
        self.told(None, PILE, entries)
        self.told(2, PILE, entries[:2] + [("trim", ())])
        self.assertEqual(mover_behind(PILE, entries), ((PILE, {(0, 0): "a"}, ()), (0, 1, 2)))


class Events(Logs):
    def test_events(self):
        for event in (("read", (0, 3), "a"), ("read", (0, 0), "aa"), ("say", (0, (0,))), ("say", (3, (0,))), ("drop", 0), ("drop", -1),
                      ("read", (0, 0)), ("read", (0, 0), "a", 0), ("say",), ("say", (0, (1,)), 0), ("undo",), ("Say", (0, (1,))),
                      (None, (0, (1,))), ["say", (0, (1,))], "say", None, (), {}, 0, ("say", [0, (1,)]), ("say", (False, (1,))), ("drop", False),
                      ("say", (0, (True,))), ("read", (False, 0), "a"), ("read", (0, 0), ["a"]), ("say", (0, (1, 2))), ("trim", ()), ("trim",),
                      ("say", (0, (2,))), ("read", (0, 0), "")):
            for move in (SAY[1], SAY[1][:1]):
                self.assertEqual(plain_movers.first_fault(PILE, [(event, move, SAY[2])]), 0)
                self.told(0, PILE, [(event, move, SAY[2])])

    def test_a_seventh_saying(self):
        entries = moved(PILE, [("say", (0, (1,)))] * 6).log()
        self.told(None, PILE, entries)
        self.told(6, PILE, entries + entries[5:])

    def test_events_behind_which_no_order_is_left(self):
        values = find_near_values((PILE, {}, ()), (0, 1, 2))
        for event in (("read", (0, 0), ""), ("read", (0, 0), "b"), ("read", (0, 1), "xyz")):
            for move in ([(0, 1, 2)], [(0, 1, 2), (1, 0, 2)], []):
                self.told(0, PILE, [(event, move, values)])

    def test_moves(self):
        for move in ([(0, 1, 2)], [(1, 0, 2)], [(1, 0, 2), (0, 1, 2)], [(0, 1, 2), (1, 0, 2), (1, 2, 0)], [], [(0, 1, 2), (0, 1, 2), (1, 0, 2)],
                     ((0, 1, 2), (1, 0, 2)), [[0, 1, 2], [1, 0, 2]], [(0, 1, 2), (True, 0, 2)], [(False, 1, 2), (1, 0, 2)], None, "", {}, (), 0,
                     {(0, 1, 2): (1, 0, 2)}, [(0, 1, 2), (1, 2, 0)], [(0, 1, 2), None], [None, (1, 0, 2)], [(0, 1, 2), (0, 2, 1), (2, 0, 1), (2, 1, 0)],
                     [(0, 1, 2), (1, 0)], [(0, 1, 2), (1, 0, 2, 2)], [(0, 1, 2), (1, 0, "2")], [SAY[1]]):
            self.told(0, PILE, [(SAY[0], move, SAY[2])])

    def test_two_ways(self):
        # 3 comes up over 2 and 1 over 0, in either row, and then 3 over 0.
        pile = stacked("abcd")
        first, second = moved(pile, [("say", (2, (0,))), ("say", (0, (3,)))]).log()
        self.assertEqual((second[1][0], second[1][-1], len(second[1])), ((0, 1, 2, 3), (1, 3, 0, 2), 4))
        ways = [[(0, 1, 2, 3)]]
        for _ in range(3):
            ways = [way + [row] for way in ways for row in plain_books.neighbours(way[-1])]
        rights = [self.by_the_document(pile, [first, (second[0], way, second[2])]) for way in ways]
        self.assertEqual(rights.count(True), 2)

    def test_values(self):
        everything = (0, 1, 2)
        for some in SAY[2]:
            for value in (SAY[2][some] + 1, SAY[2][some] - 1, True, None, "0", -1, (0,)):
                self.by_the_document(PILE, [(SAY[0], SAY[1], {**SAY[2], some: value})])
            self.told(0, PILE, [(SAY[0], SAY[1], {one: SAY[2][one] for one in SAY[2] if one != some})])
        self.told(0, PILE, [(SAY[0], SAY[1], {**SAY[2], everything: 0})])
        for values in ({}, None, [], (), 0, list(SAY[2].items()), {**SAY[2], (3,): 0}, {**SAY[2], 0: 0}, {(): 0}, {**SAY[2], (1, 0): 0}):
            self.told(0, PILE, [(SAY[0], SAY[1], values)])
        # Values that show the distance for the case behind, not ahead, and for the order ahead, not behind.
        for case, row in (((PILE, {}, ()), (0, 1, 2)), ((PILE, {}, ((0, (1,)),)), (1, 0, 2)), ((PILE, {}, ((0, (1,)),)), (0, 2, 1))):
            self.by_the_document(PILE, [(SAY[0], SAY[1], find_near_values(case, row))])
        self.told(0, PILE, [(SAY[0], SAY[1], find_near_values((PILE, {}, ((0, (1,)),)), (1, 0, 2)))])

    def test_a_drop_has_one_order(self):
        entries = moved(PILE, [("say", (0, (1,))), ("drop", 0)]).log()
        self.told(None, PILE, entries)
        for move in ([(1, 0, 2), (1, 0, 2)], [(1, 0, 2), (0, 1, 2)], [(0, 1, 2)], [(1, 0, 2), (0, 1, 2), (1, 0, 2)], [], ((1, 0, 2),),
                     [(True, 0, 2)], [[1, 0, 2]], [(1, 2, 0)], (1, 0, 2), None):
            self.told(1, PILE, entries[:1] + [(("drop", 0), move, entries[1][2])])

    def test_the_least_order_of_the_nearest(self):
        # Each order behind is tried as the one that was gone to.
        pile = stacked("abcd")
        for saying in ((0, (2, 3)), (1, (2, 3)), (0, (1, 3))):
            case = (pile, {}, (saying,))
            least, number = plain_movers.nearest(plain.all_orders(case), (0, 1, 2, 3))
            values = find_near_values(case, (0, 1, 2, 3))
            for other in plain.all_orders(case):
                way = self.way_of_rows((0, 1, 2, 3), other)
                self.told(None if other == least else 0, pile, [(("say", saying), way, values)])

    def way_of_rows(self, order, other):
        way = [order]
        while way[-1] != other:
            row = way[-1]
            at = [at for at in range(len(row) - 1) if not plain.stands_ahead(other, row[at], row[at + 1])][0]
            way.append(plain_books.neighbours(row)[at])
        return way

    def test_entries_left_out_twice_or_exchanged(self):
        tally = [0, 0]
        for at in range(len(LOG)):
            for value in (LOG[:at] + LOG[at + 1:], LOG[:at + 1] + LOG[at:], LOG + [LOG[at]], [LOG[at]] + LOG):
                tally[self.by_the_document(PILE, value)] += 1
            for other in range(len(LOG)):
                value = list(LOG)
                value[at], value[other] = value[other], value[at]
                tally[self.by_the_document(PILE, value)] += 1
        self.assertGreater(min(tally), 5, tally)

    def test_the_log_of_a_desk(self):
        desk = Desk(PILE)
        desk.say((0, (1,)))
        self.told(0, PILE, log(desk))


class AnyValue(Logs):
    def test_other_kinds(self):
        for value in (tuple(LOG), {0: LOG[0]}, LOG[0], None, "", (), {}, 0, True):
            self.assertIs(call(self, is_mover_log, PILE, value), False)
        for value in ([LOG], [list(LOG[0])], [LOG[0] + (0,)], [LOG[0][:2]], [LOG[0][::-1]], [None], [[]], [()], [{}], [0], [True], ["trim"],
                      [("trim", None)], [("trim", [])], [("trim", {})], [(None, ())], [((), ())], [LOG[0][:1] + LOG[0][2:]]):
            self.told(0, PILE, value)
            self.told(3, PILE, LOG[:3] + value)

    def test_any_value(self):
        for value in WRONG:
            if not isinstance(value, list):
                self.assertIs(call(self, is_mover_log, PILE, value), False)
            else:
                self.told(None if value == [] else 0, PILE, value)
            self.told(0, PILE, [value])
            self.told(0, PILE, [(value, SAY[1], SAY[2])])
            self.told(0, PILE, [(SAY[0], value, SAY[2])])
            self.told(0, PILE, [(SAY[0], SAY[1], value)])
            self.told(None if value == (0, (1,)) else 0, PILE, [(("say", value), SAY[1], SAY[2])])
            self.told(0, PILE, [(("read", value, "a"), SAY[1], SAY[2])])
            self.told(None if repr(value) == "()" else 1, PILE, [SAY, ("trim", value)])
            self.told(1, PILE, [SAY, ("trim", (value,))])
            self.told(2, PILE, [SAY, SAY[:1] + ([(1, 0, 2)], find_near_values((PILE, {}, ((0, (1,)),)), (1, 0, 2))),
                                ("trim", (((0, (1,)), value),))])

    def test_changed_in_one_place(self):
        tally = [0, 0]
        rng = random.Random(291)
        for _ in range(220):
            pile = some_pile(rng, 4)
            entries = some_mover(rng, pile, 8).log()
            for _ in range(5):
                value = changed_once(rng, entries)
                if isinstance(value, list):
                    tally[self.by_the_document(pile, value)] += 1
        self.assertGreater(min(tally), 40, tally)


class Runs(Logs):
    def test_by_the_document(self):
        rng = random.Random(292)
        for _ in range(100):
            pile = some_pile(rng, 5)
            mover = some_mover(rng, pile, 10)
            entries = mover.log()
            self.assertTrue(self.by_the_document(pile, entries))
            self.assertEqual(exact(call(self, mover_behind, pile, entries)), exact((mover.case(), mover.order())))

    def test_the_first_wrong_entry_of_some_hundred(self):
        rng = random.Random(293)
        pile = stacked("abcd")
        mover = some_mover(rng, pile, 700)
        entries = mover.log()
        self.assertGreater(len(entries), 300)
        self.told(None, pile, entries)
        for at in sorted(rng.sample(range(len(entries)), 12)):
            entry = entries[at]
            wrong = ("trim", entry[1] + (None,)) if entry[0] == "trim" else (entry[0], entry[1] + entry[1][-1:], entry[2])
            self.told(at, pile, entries[:at] + [wrong] + entries[at + 1:])
            later = [None if number > at else one for number, one in enumerate(entries)]
            self.told(at + 1 if at + 1 < len(entries) else None, pile, later)

    def test_ten_sheets(self):
        rng = random.Random(294)
        for pile in (TEN, stacked("abcdefghij")):
            mover = Mover(pile)
            cells = sorted(plain.covered_cells(pile))
            began = perf_counter()
            for number in range(40):
                cell = rng.choice(cells)
                letters = set("abcdefghij") - {rng.choice("abcdefghij")} | {shown_at(pile, mover.order(), cell)}
                if number % 4 == 0:
                    mover.read(cell, "".join(sorted(letters)))
                elif number % 4 == 1:
                    mover.say((9, (rng.randrange(9),)))
                elif number % 4 == 2:
                    mover.trim()
                elif mover.case()[2]:
                    mover.drop(0)
            entries = mover.log()
            self.assertIs(is_mover_log(pile, entries), True)
            self.assertEqual(first_mover_fault(pile, entries + [None]), len(entries))
            self.assertEqual(mover_behind(pile, entries), (mover.case(), mover.order()))
            self.assertLess(perf_counter() - began, 2 * LONGEST)

    def test_a_ground_of_the_case_without_those_that_went_before(self):
        calls = [("say", (0, (1, 2))), ("say", (0, (1,))), ("say", (0, (1, 2)))]
        entries = moved(PILE, calls).log()
        rest = (PILE, {}, ((0, (1,)), (0, (1, 2))))
        last = (PILE, {}, ((0, (1,)),))
        first, second = (((0, (1, 2)), find_ground(case, (0, (1, 2)))) for case in (rest, last))
        self.told(None, PILE, entries + [("trim", (first, second))])
        other = ((0, (1, 2)), {0: ("saying", 1)})
        self.told(None, PILE, entries + [("trim", (other, second))])
        self.told(3, PILE, entries + [("trim", (first, other))])


if __name__ == "__main__":
    unittest.main()
