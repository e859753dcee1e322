import random
import unittest
from time import perf_counter

from laidsheets.desk import Desk
from laidsheets.errors import InvalidEvent, Refused
from laidsheets.jams import is_jam
from laidsheets.logs import is_log, log, replayed
from laidsheets.orders import find_order, is_order
from tests import plain
from tests.calls import LONGEST, boxes, exact
from tests.desks import made, make
from tests.samples import ONE, PILE, TEN, WRONG, some_event, some_pile, stacked

STACK = stacked("abcdefghij")


def told(desk):
    """All that a desk tells, as one string."""
    return exact((desk.case(), desk.order(), log(desk)))


class Desks(unittest.TestCase):
    def raises(self, desk, error, event):
        """Tests that an event raises an error, which holds the right value, and that the desk stays as it was."""
        before, given = told(desk), repr(event)
        with self.assertRaises(error) as caught:
            make(desk, event)
        self.assertIs(type(caught.exception), error)
        self.assertEqual(told(desk), before)
        self.assertEqual(repr(event), given)
        if error is InvalidEvent:
            self.assertEqual(exact(caught.exception.event), exact(event))
            self.assertFalse({id(box) for box in boxes(event)} & {id(box) for box in boxes(caught.exception.event)})
        return caught.exception


class Ordinary(Desks):
    def test_the_beginning(self):
        for pile in (PILE, ONE, TEN, STACK):
            desk = Desk(pile)
            self.assertEqual(desk.case(), (pile, {}, ()))
            self.assertIs(is_order(desk.case(), desk.order()), True)
            self.assertEqual(log(desk), [])
            self.assertIsNone(desk.undo())

    def test_read(self):
        desk = Desk(PILE)
        self.assertIsNone(desk.read((0, 0), "ab"))
        self.assertIsNone(desk.read((0, 1), "b"))
        self.assertEqual(desk.case(), (PILE, {(0, 0): "ab", (0, 1): "b"}, ()))
        self.assertEqual(desk.order(), (1, 0, 2))
        self.assertEqual([event for event, order in log(desk)], [("read", (0, 0), "ab"), ("read", (0, 1), "b")])

    def test_a_cell_that_is_read_twice(self):
        desk = Desk(PILE)
        for reading, left in (("abcxyz", "abcxyz"), ("acxz", "acxz"), ("abcdefz", "acz"), ("acz", "acz"), ("bcd", "c")):
            self.assertIsNone(desk.read((0, 0), reading))
            self.assertEqual(desk.case()[1], {(0, 0): left})
        self.assertEqual(len(log(desk)), 5)
        self.assertEqual(log(desk)[2][0], ("read", (0, 0), "abcdefz"))
        refused = self.raises(desk, Refused, ("read", (0, 0), "ab"))
        self.assertEqual(refused.jam, {0: ("cell", (0, 0)), 2: ("cell", (0, 0))})
        for left in ("acz", "acz", "acxz", "abcxyz"):
            desk.undo()
            self.assertEqual(desk.case()[1], {(0, 0): left})
        desk.undo()
        self.assertEqual(desk.case()[1], {})

    def test_say_and_drop(self):
        desk = Desk(PILE)
        sayings = [(0, (1, 2)), (2, (1,)), (0, (1,)), (0, (1, 2)), (2, (0, 1)), (2, (0,))]
        for saying in sayings:
            self.assertIsNone(desk.say(saying))
        self.assertEqual(desk.case(), (PILE, {}, tuple(sayings)))
        self.assertEqual(desk.order(), (1, 0, 2))
        self.raises(desk, InvalidEvent, ("say", (0, (1,))))
        for i in (5, 0, 2):
            self.assertIsNone(desk.drop(i))
            del sayings[i]
            self.assertEqual(desk.case(), (PILE, {}, tuple(sayings)))
        self.assertIsNone(desk.say((0, (2,))))
        self.assertEqual(desk.case()[2], tuple(sayings) + ((0, (2,)),))
        self.assertEqual(log(desk)[6][0], ("drop", 5))
        self.assertEqual(desk.undo(), ("say", (0, (2,))))
        self.assertEqual(desk.undo(), ("drop", 2))
        self.assertEqual(len(desk.case()[2]), 4)

    def test_refused(self):
        desk = made(PILE, [("say", (0, (1,)))])
        self.assertEqual(self.raises(desk, Refused, ("say", (1, (0,)))).jam, {0: ("saying", 0), 1: ("saying", 1)})
        self.assertEqual(self.raises(desk, Refused, ("read", (0, 0), "")).jam, {0: ("cell", (0, 0)), 2: ("cell", (0, 0))})
        jam = self.raises(desk, Refused, ("read", (0, 1), "a")).jam
        self.assertTrue(plain.jam_holds((PILE, {(0, 1): "a"}, ((0, (1,)),)), jam))
        self.assertEqual(log(desk), [(("say", (0, (1,))), desk.order())])
        self.raises(Desk(ONE), Refused, ("read", (0, 0), "bcd"))

    def test_the_error_that_is_listed_first(self):
        desk = made(PILE, [("say", (0, (1,)))] * 6)
        self.raises(desk, InvalidEvent, ("say", (1, (0,))))
        self.raises(desk, InvalidEvent, ("read", (0, 3), ""))
        self.raises(desk, InvalidEvent, ("read", (0, 1), "aa"))
        desk.drop(0)
        self.raises(desk, Refused, ("say", (1, (0,))))

    def test_undo_to_the_empty_log_and_beyond(self):
        events = [("read", (0, 0), "ac"), ("say", (1, (0,))), ("read", (0, 2), "b"), ("drop", 0), ("read", (0, 0), "ax")]
        desk = made(PILE, events)
        for many in range(len(events) - 1, -1, -1):
            self.assertEqual(desk.undo(), events[many])
            self.assertEqual(told(desk), told(made(PILE, events[:many])))
        for _ in range(3):
            self.assertIsNone(desk.undo())
            self.assertEqual(told(desk), told(Desk(PILE)))
        desk.read((0, 0), "c")
        self.assertEqual(desk.case()[1], {(0, 0): "c"})

    def test_what_was_told_stays_and_the_desk_stays(self):
        desk = made(PILE, [("read", (0, 0), "ab"), ("say", (2, (1,)))])
        first, entries = desk.case(), log(desk)
        before, copies = told(desk), exact((first, entries))
        desk.read((0, 1), "b")
        desk.read((0, 0), "a")
        desk.drop(0)
        self.assertEqual(exact((first, entries)), copies)
        for _ in range(3):
            desk.undo()
        self.assertEqual(told(desk), before)
        for value in (first, entries, desk.case(), log(desk)):
            for box in boxes(value):
                box.clear()
        self.assertEqual(told(desk), before)
        refused = self.raises(desk, Refused, ("read", (0, 0), "c"))
        refused.jam.clear()
        self.assertEqual(told(desk), before)
        again = self.raises(desk, Refused, ("read", (0, 0), "c"))
        self.assertNotEqual(again.jam, {})
        self.assertIsNot(desk.case()[1], desk.case()[1])
        self.assertIsNot(log(desk), log(desk))


class Arguments(Desks):
    def begun(self):
        yield Desk(PILE)
        yield made(PILE, [("read", (0, 1), "ab"), ("say", (2, (0, 1))), ("say", (0, (1,)))])

    def test_cells(self):
        for desk in self.begun():
            for cell in ((0, 3), (1, 0), (-1, 0), (0, -1), (8, 8), (10 ** 29, 0), (0,), (0, 0, 0), (), 0, None, "00", "",
                         (False, 0), (0, True), (True, True), [0, 0], {0: 0}, {}, ((0, 0),), ("0", "0"), (0, None), (0, [0]),
                         (0, (0,)), True, (0, "1"), [(0, 0)], ({}, {})):
                self.raises(desk, InvalidEvent, ("read", cell, "a"))
        holes = (2, 2, ((0, 0, ("a.", "..")), (1, 1, ("b",))))
        for cell in ((0, 1), (1, 0), (2, 0), (0, 2)):
            self.raises(Desk(holes), InvalidEvent, ("read", cell, "ab"))
        self.assertIsNone(Desk(holes).read((1, 1), "b"))

    def test_readings(self):
        for desk in self.begun():
            for reading in ("ba", "aa", "abb", "cab", "A", "aB", ".", "a.", " ", "a ", "`", "{", "0", "a0", "\u00e4", None, True,
                            False, 0, 1, ("a",), (), ["a"], [], {"a": 0}, {}, ("a", "b"), [["a"]], -1):
                self.raises(desk, InvalidEvent, ("read", (0, 1), reading))
                self.raises(desk, InvalidEvent, ("read", (0, 0), reading))
                self.raises(desk, InvalidEvent, ("read", (0, 3), reading))

    def test_sayings(self):
        for desk in self.begun():
            for saying in ((0, ()), (0, (0,)), (0, (0, 1)), (0, (2, 1)), (0, (1, 1)), (0, (3,)), (0, (-1,)), (3, (0,)), (-1, (0,)),
                           (0, (1, 3)), (0, [1]), [0, (1,)], (0, 1), (0,), (0, (1,), ()), (), None, 0, True, "01", {0: (1,)}, {}, [],
                           (True, (0,)), (False, (1,)), (0, (True,)), (2, (False, 1)), ("0", (1,)), (0, ("1",)), (0, (None,)),
                           ((0,), (1,)), (None, (1,)), (0, None), ((1,), 0), (0, {1: 1}), ([0], (1,)), (0, ([1],)), ((0, (1,)),)):
                self.raises(desk, InvalidEvent, ("say", saying))
        self.raises(Desk(ONE), InvalidEvent, ("say", (0, (0,))))
        self.raises(Desk(ONE), InvalidEvent, ("say", (0, (1,))))

    def test_a_seventh_saying(self):
        desk = Desk(PILE)
        for _ in range(6):
            desk.say((1, (0, 2)))
        self.raises(desk, InvalidEvent, ("say", (1, (0, 2))))
        desk.drop(3)
        desk.say((1, (0,)))
        self.raises(desk, InvalidEvent, ("say", (1, (0, 2))))
        desk.undo()
        self.assertIsNone(desk.say((1, (2,))))

    def test_numbers_of_sayings(self):
        for i in (0, 1, -1, 10 ** 29):
            self.raises(Desk(PILE), InvalidEvent, ("drop", i))
        desk = made(PILE, [("say", (2, (0, 1))), ("say", (0, (1,)))])
        for i in (2, 3, -1, -2, 10 ** 29, -(10 ** 29), True, False, None, "0", "", (0,), (), [0], [], {0: 0}, {}, (0, (1,)),
                  (2, (0, 1)), [[0]]):
            self.raises(desk, InvalidEvent, ("drop", i))
        self.assertIsNone(desk.drop(1))
        self.raises(desk, InvalidEvent, ("drop", 1))

    def test_any_values(self):
        desk = made(PILE, [("read", (0, 1), "ab"), ("say", (2, (0, 1))), ("say", (0, (1,)))])
        for value in WRONG:
            if value != "":
                self.raises(desk, InvalidEvent, ("read", value, value))
            self.raises(desk, InvalidEvent, ("read", value, "a"))
            if value not in ("", "a"):
                self.raises(desk, InvalidEvent, ("read", (0, 0), value))
            if value != (0, (1,)):
                self.raises(desk, InvalidEvent, ("say", value))
            if repr(value) not in ("0", "1"):
                self.raises(desk, InvalidEvent, ("drop", value))
                self.raises(desk, InvalidEvent, ("say", (value, (2,))))


class Equal(Desks):
    def equal(self, one, other, right):
        self.assertIs(one == other, right)
        self.assertIs(other == one, right)
        self.assertIs(one != other, not right)

    def test_piles(self):
        self.equal(Desk(PILE), Desk((1, 3, tuple(PILE[2]))), True)
        self.equal(Desk(PILE), Desk((2, 3, PILE[2])), False)
        self.equal(Desk(PILE), Desk((1, 3, PILE[2][:2])), False)
        self.equal(Desk(PILE), Desk(ONE), False)

    def test_logs(self):
        events = [("read", (0, 0), "ab"), ("say", (2, (1,))), ("drop", 0)]
        for many in range(4):
            for other in range(4):
                self.equal(made(PILE, events[:many]), made(PILE, events[:other]), many == other)
        self.equal(made(PILE, events[:2]), made(PILE, events[1::-1]), False)
        self.equal(made(PILE, [("read", (0, 0), "a")]), made(PILE, [("read", (0, 0), "ab"), ("read", (0, 0), "a")]), False)
        self.equal(made(PILE, [("read", (0, 0), "abc")]), made(PILE, [("read", (0, 0), "acz")]), False)
        self.equal(made(PILE, [("say", (0, (1,)))] * 2 + [("drop", 0)]), made(PILE, [("say", (0, (1,)))] * 2 + [("drop", 1)]), False)

    def test_what_is_not_in_the_log_counts_for_nothing(self):
        desk = Desk(PILE)
        desk.say((0, (1,)))
        desk.undo()
        self.equal(desk, Desk(PILE), True)
        desk.read((0, 0), "a")
        self.raises(desk, Refused, ("read", (0, 0), "c"))
        self.raises(desk, InvalidEvent, ("drop", 0))
        self.equal(desk, made(PILE, [("read", (0, 0), "a")]), True)
        self.equal(desk, desk, True)

    def test_other_kinds(self):
        desk = made(PILE, [("read", (0, 0), "ab")])
        for value in (None, 0, True, "", PILE, desk.case(), desk.order(), log(desk), (PILE, log(desk)), {}, [], (), Desk, object()):
            self.equal(desk, value, False)
            self.equal(Desk(PILE), value, False)


class Runs(Desks):
    def run_of(self, rng, pile, many):
        """A drawn run of calls, held against a record that is kept here; returns how often each kind of call came."""
        desk, record = Desk(pile), [(None, (pile, {}, ()), Desk(pile).order())]
        order = rng.sample(range(len(pile[2])), len(pile[2]))
        tally = {}
        for _ in range(many):
            if rng.random() < 0.15:
                kind = self.undone(desk, record)
            else:
                kind = self.called(desk, record, some_event(rng, record[-1][1], order))
            tally[kind] = tally.get(kind, 0) + 1
            self.compared(desk, record)
        return tally

    def undone(self, desk, record):
        self.assertEqual(desk.undo(), record[-1][0])
        if len(record) == 1:
            return "beyond"
        record.pop()
        return "undo"

    def called(self, desk, record, event):
        behind = plain.behind(record[-1][1], event)
        if behind is None:
            self.raises(desk, InvalidEvent, event)
            return "invalid"
        if not plain.all_orders(behind):
            jam = self.raises(desk, Refused, event).jam
            self.assertTrue(plain.jam_holds(behind, jam))
            self.assertIs(is_jam(behind, jam), True)
            return "refused"
        self.assertIsNone(make(desk, event))
        record.append((event, behind, desk.order()))
        return event[0]

    def compared(self, desk, record):
        pile = record[0][1][0]
        self.assertEqual(exact(desk.case()), exact(record[-1][1]))
        self.assertTrue(plain.meets(desk.case(), desk.order()))
        self.assertEqual(desk.order(), record[-1][2])
        self.assertEqual(exact(log(desk)), exact([(event, order) for event, case, order in record[1:]]))
        other = made(pile, [event for event, case, order in record[1:]])
        self.assertTrue(desk == other)
        self.assertEqual(told(desk), told(other))
        if len(record) > 1:
            other.undo()
            self.assertFalse(desk == other)

    def test_by_the_document(self):
        rng = random.Random(141)
        tally = {}
        for _ in range(250):
            for kind, many in self.run_of(rng, some_pile(rng, 4), 18).items():
                tally[kind] = tally.get(kind, 0) + many
        kinds = ("read", "say", "drop", "undo", "beyond", "invalid", "refused")
        self.assertGreater(min(tally[kind] for kind in kinds), 30, tally)

    def long_run(self, pile, many):
        """A run of many calls on a large pile; accepted exactly if there is an order behind the event."""
        rng = random.Random(142)
        order = rng.sample(range(len(pile[2])), len(pile[2]))
        desk = Desk(pile)
        tally = {"made": 0, "refused": 0, "invalid": 0}
        began = perf_counter()
        for number in range(many):
            event = some_event(rng, desk.case(), order)
            try:
                make(desk, event)
                tally["made"] += 1
            except Refused as error:
                tally["refused"] += 1
                behind = plain.behind(desk.case(), event)
                self.assertIs(is_jam(behind, error.jam), True)
            except InvalidEvent:
                tally["invalid"] += 1
            if number % 50 == 0:
                self.assertEqual(desk.order() is not None, find_order(desk.case()) is not None)
                self.assertIs(is_order(desk.case(), desk.order()), True)
        self.assertLess(perf_counter() - began, 6 * LONGEST)
        self.assertEqual(len(log(desk)), tally["made"])
        self.assertIs(is_log(pile, log(desk)), True)
        self.assertEqual(replayed(pile, log(desk)), desk.case())
        return tally

    def test_several_hundred_events(self):
        for pile in (TEN, STACK):
            tally = self.long_run(pile, 700)
            self.assertGreater(min(tally.values()), 5, tally)

    def test_a_full_board(self):
        rng = random.Random(143)
        sheets = tuple((0, 0, tuple("".join(rng.choice("abc.") for _ in range(8)) for _ in range(8))) for _ in range(10))
        self.long_run((8, 8, sheets), 150)


if __name__ == "__main__":
    unittest.main()
