import random
import unittest
from time import perf_counter

from laidsheets.books import base_of
from laidsheets.desk import Desk
from laidsheets.errors import InvalidEvent, Refused
from laidsheets.following import is_ground
from laidsheets.jams import is_jam
from laidsheets.moverlogs import is_mover_log
from laidsheets.movers import Mover
from laidsheets.nearest import nearest, shows_near
from laidsheets.orders import is_order
from laidsheets.ways import is_way
from tests import plain, plain_books
from tests.calls import LONGEST, boxes, exact
from tests.desks import make
from tests.moving import Record, moved
from tests.samples import ONE, PILE, TEN, WRONG, some_event, some_pile, stacked

STACK = stacked("abcdefghij")


def told(mover):
    """All that a mover tells, as one string."""
    return exact((mover.case(), mover.order(), mover.book(), mover.log()))


class Movers(unittest.TestCase):
    def raises(self, mover, error, event):
        """Tests that an event raises an error, which holds the right value, and that the mover stays as it was."""
        before, given = told(mover), repr(event)
        with self.assertRaises(error) as caught:
            make(mover, event)
        self.assertIs(type(caught.exception), error)
        self.assertEqual(told(mover), before)
        self.assertEqual(repr(event), given)
        if error is InvalidEvent:
            self.assertEqual(exact(caught.exception.event), exact(event))
            self.assertFalse({id(box) for box in boxes(event)} & {id(box) for box in boxes(caught.exception.event)})
        return caught.exception


class Ordinary(Movers):
    def test_the_beginning(self):
        for pile in (PILE, ONE, TEN, STACK):
            mover = Mover(pile)
            self.assertEqual(mover.case(), (pile, {}, ()))
            self.assertEqual(mover.order(), tuple(range(len(pile[2]))))
            self.assertEqual(mover.book(), ())
            self.assertEqual(mover.log(), [])
            self.assertIsNone(mover.undo())

    def test_the_order_goes_to_the_nearest_one(self):
        mover = Mover(PILE)
        self.assertEqual(mover.say((0, (1, 2))), 1)
        self.assertEqual(mover.order(), (1, 0, 2))
        self.assertEqual(mover.say((1, (0,))), 3)
        self.assertEqual(mover.order(), (2, 0, 1))
        self.assertEqual(mover.book(), ((0, (2,)), (1, (0,))))
        self.assertEqual([entry[:2] for entry in mover.log()],
                         [(("say", (0, (1, 2))), [(0, 1, 2), (1, 0, 2)]),
                          (("say", (1, (0,))), plain_move((1, 0, 2), (2, 0, 1), mover.log()[1][1]))])

    def test_it_depends_on_where_the_order_was(self):
        mover = moved(PILE, [("say", (0, (2,))), ("drop", 0)])
        self.assertEqual(mover.case(), Mover(PILE).case())
        self.assertEqual(mover.order(), (1, 2, 0))
        self.assertEqual(mover.say((1, (0, 2))), 1)
        self.assertEqual(mover.order(), (2, 1, 0))
        self.assertEqual(moved(PILE, [("say", (1, (0, 2)))]).order(), (0, 1, 2))

    def test_it_stays_where_it_meets_the_case(self):
        mover = Mover(PILE)
        for event in (("read", (0, 0), "ab"), ("say", (2, (0, 1))), ("read", (0, 0), "a"), ("drop", 0), ("read", (0, 1), "abc")):
            self.assertEqual(make(mover, event), 0)
            self.assertEqual(mover.order(), (0, 1, 2))
            self.assertEqual(mover.log()[-1][:2], (event, [(0, 1, 2)]))
            self.assertEqual(mover.log()[-1][2][(0, 1, 2)], 0)

    def test_read_twice(self):
        mover = Mover(PILE)
        for reading, left, number in (("abcxyz", "abcxyz", 0), ("cbx", None, None), ("bcx", "bcx", 2), ("abc", "bc", 0)):
            if left is None:
                self.raises(mover, InvalidEvent, ("read", (0, 0), reading))
            else:
                self.assertEqual(mover.read((0, 0), reading), number)
                self.assertEqual(mover.case()[1], {(0, 0): left})
        self.assertEqual(mover.order(), (1, 2, 0))
        self.assertEqual(mover.log()[2][0], ("read", (0, 0), "abc"))
        refused = self.raises(mover, Refused, ("read", (0, 0), "a"))
        self.assertEqual(refused.jam, {0: ("cell", (0, 0)), 2: ("cell", (0, 0))})

    def test_a_drop_has_one_order(self):
        mover = moved(PILE, [("say", (0, (1,))), ("say", (1, (2,)))])
        order = mover.order()
        self.assertEqual(mover.drop(0), 0)
        self.assertEqual(mover.log()[-1][:2], (("drop", 0), [order]))
        self.assertEqual(mover.order(), order)
        self.assertEqual(mover.case(), (PILE, {}, ((1, (2,)),)))

    def test_refused_and_the_error_that_is_listed_first(self):
        mover = moved(PILE, [("say", (0, (1,)))] * 6)
        self.raises(mover, InvalidEvent, ("say", (1, (0,))))
        self.raises(mover, InvalidEvent, ("read", (0, 3), ""))
        self.raises(mover, InvalidEvent, ("read", (0, 1), "aa"))
        mover.drop(0)
        self.raises(mover, Refused, ("say", (1, (0,))))
        jam = self.raises(mover, Refused, ("read", (0, 1), "a")).jam
        self.assertTrue(plain.jam_holds((PILE, {(0, 1): "a"}, ((0, (1,)),) * 5), jam))
        self.raises(Mover(ONE), Refused, ("read", (0, 0), "bcd"))
        self.assertEqual(Mover(ONE).read((0, 0), "a"), 0)

    def test_one_sheet(self):
        mover = moved(ONE, [("read", (0, 0), "ab"), ("trim",)])
        self.assertEqual(mover.log(), [(("read", (0, 0), "ab"), [(0,)], {(): 0, (0,): 0}), ("trim", ())])
        self.assertEqual((mover.order(), mover.book()), ((0,), ()))


def plain_move(order, other, way):
    """The way, if it is one from one order to the other of all rows, else None."""
    return way if plain_books.way_holds(plain.all_orders((PILE, {}, ((0, (1, 2)),))), order, other, way) else None


class Trims(Movers):
    def test_nothing_to_drop(self):
        mover = moved(PILE, [("say", (0, (1,)))])
        self.assertEqual(mover.trim(), [])
        self.assertEqual(mover.log()[1], ("trim", ()))
        self.assertEqual(mover.undo(), ("trim",))
        self.assertEqual(told(mover), told(moved(PILE, [("say", (0, (1,)))])))
        mover = Mover(PILE)
        self.assertEqual(mover.trim(), [])
        self.assertEqual(mover.log(), [("trim", ())])
        self.assertEqual((mover.undo(), mover.undo()), (("trim",), None))

    def test_equal_sayings(self):
        mover = moved(PILE, [("say", (0, (1,)))] * 4)
        self.assertEqual(mover.trim(), [(0, (1,))] * 3)
        self.assertEqual(mover.case()[2], ((0, (1,)),))
        self.assertEqual(mover.log()[4], ("trim", (((0, (1,)), {0: ("saying", 0)}),) * 3))

    def test_by_rising_numbers_as_they_then_are(self):
        # 0 under 1 and 1 under 2 hold 0 under 2; the same of a saying and one with more others.
        mover = moved(PILE, [("say", (0, (1, 2))), ("say", (0, (1,))), ("say", (1, (2,))), ("say", (0, (2,)))])
        order = mover.order()
        self.assertEqual(mover.trim(), [(0, (1, 2)), (0, (2,))])
        self.assertEqual(mover.case(), (PILE, {}, ((0, (1,)), (1, (2,)))))
        self.assertEqual(mover.order(), order)
        kind, dropped = mover.log()[4]
        self.assertEqual(kind, "trim")
        self.assertIs(is_ground((PILE, {}, ((0, (1,)), (1, (2,)), (0, (2,)))), (0, (1, 2)), dropped[0][1]), True)
        self.assertIs(is_ground((PILE, {}, ((0, (1,)), (1, (2,)))), (0, (2,)), dropped[1][1]), True)
        # Of two that follow from one another the first one goes.
        mover = moved(PILE, [("say", (2, (0, 1))), ("say", (0, (1,))), ("say", (2, (1,)))])
        self.assertEqual(mover.trim(), [(2, (0, 1))])

    def test_behind_a_drop_the_same_number_is_looked_at_again(self):
        mover = moved(PILE, [("say", (0, (1, 2))), ("say", (0, (1, 2))), ("say", (0, (1, 2))), ("say", (0, (1,)))])
        self.assertEqual(mover.trim(), [(0, (1, 2))] * 3)
        self.assertEqual(mover.case()[2], ((0, (1,)),))

    def test_sayings_that_follow_from_readings(self):
        mover = moved(PILE, [("say", (2, (0,))), ("say", (0, (1,))), ("read", (0, 0), "a")])
        self.assertEqual(mover.trim(), [(2, (0,))])
        self.assertEqual(mover.log()[3], ("trim", (((2, (0,)), {2: ("cell", (0, 0))}),)))
        self.assertEqual(mover.undo(), ("trim",))
        self.assertEqual(mover.case()[2], ((2, (0,)), (0, (1,))))
        mover.undo()
        self.assertEqual(mover.trim(), [])

    def test_room_for_a_seventh_saying(self):
        mover = moved(PILE, [("say", (0, (1,)))] * 6)
        self.raises(mover, InvalidEvent, ("say", (2, (1,))))
        self.assertEqual(len(mover.trim()), 5)
        mover.say((2, (1,)))
        self.assertEqual(mover.case()[2], ((0, (1,)), (2, (1,))))
        self.raises(mover, InvalidEvent, ("drop", 2))


class Kept(Movers):
    def test_undo_to_the_empty_log_and_beyond(self):
        calls = [("read", (0, 0), "ac"), ("say", (0, (1, 2))), ("trim",), ("say", (0, (1,))), ("trim",), ("read", (0, 2), "b"), ("drop", 0)]
        mover = moved(PILE, calls)
        for many in range(len(calls) - 1, -1, -1):
            self.assertEqual(mover.undo(), calls[many])
            self.assertEqual(told(mover), told(moved(PILE, calls[:many])))
        for _ in range(3):
            self.assertIsNone(mover.undo())
            self.assertEqual(told(mover), told(Mover(PILE)))

    def test_what_was_told_stays_and_the_mover_stays(self):
        mover = moved(PILE, [("read", (0, 0), "ab"), ("say", (0, (1,))), ("say", (0, (1, 2))), ("trim",)])
        first, entries = mover.case(), mover.log()
        before, copies = told(mover), exact((first, entries))
        mover.read((0, 1), "b")
        mover.drop(0)
        mover.trim()
        self.assertEqual(exact((first, entries)), copies)
        for _ in range(3):
            mover.undo()
        self.assertEqual(told(mover), before)
        dropped = mover.trim()
        mover.undo()
        for value in (first, entries, mover.case(), mover.log(), dropped):
            for box in boxes(value):
                box.clear()
        self.assertEqual(told(mover), before)
        self.raises(mover, Refused, ("read", (0, 0), "c")).jam.clear()
        self.assertNotEqual(self.raises(mover, Refused, ("read", (0, 0), "c")).jam, {})
        self.assertEqual(told(mover), before)

    def test_no_list_or_dict_is_told_twice(self):
        mover = moved(PILE, [("read", (0, 0), "ab"), ("say", (0, (1,))), ("say", (0, (1, 2))), ("say", (0, (1,))), ("trim",), ("drop", 0)])
        # All are kept until their identities are looked at.
        values = [tell() for _ in range(2) for tell in (mover.case, mover.log, mover.trim, mover.trim)]
        found = [id(box) for value in values for box in boxes(value)]
        self.assertEqual(len(set(found)), len(found))
        self.assertGreater(len(found), 30)


class Arguments(Movers):
    def begun(self):
        yield Mover(PILE)
        yield moved(PILE, [("read", (0, 1), "ab"), ("say", (2, (0, 1))), ("say", (0, (1,))), ("trim",)])

    def test_cells_and_readings(self):
        for mover in self.begun():
            for cell in ((0, 3), (1, 0), (-1, 0), (0, -1), (10 ** 29, 0), (0,), (0, 0, 0), (), 0, None, "00", (False, 0), (0, True), [0, 0],
                         {0: 0}, {}, ((0, 0),), ("0", "0"), (0, None), (0, [0]), True, [(0, 0)]):
                self.raises(mover, InvalidEvent, ("read", cell, "a"))
            for reading in ("ba", "aa", "A", ".", " ", "a ", "`", "{", "0", None, True, 0, ("a",), (), ["a"], {"a": 0}, {}, [["a"]], -1):
                self.raises(mover, InvalidEvent, ("read", (0, 1), reading))
                self.raises(mover, InvalidEvent, ("read", (0, 3), reading))

    def test_sayings(self):
        for mover in self.begun():
            for saying in ((0, ()), (0, (0,)), (0, (0, 1)), (0, (2, 1)), (0, (1, 1)), (0, (3,)), (0, (-1,)), (3, (0,)), (-1, (0,)), (0, [1]),
                           [0, (1,)], (0, 1), (0,), (0, (1,), ()), (), None, 0, True, "01", {0: (1,)}, (True, (0,)), (False, (1,)), (2, (False, 1)),
                           ("0", (1,)), (0, ("1",)), (0, (None,)), (0, None), ([0], (1,)), (0, ([1],)), ((0, (1,)),)):
                self.raises(mover, InvalidEvent, ("say", saying))
        self.raises(Mover(ONE), InvalidEvent, ("say", (0, (1,))))

    def test_numbers_of_sayings(self):
        for i in (0, 1, -1, 10 ** 29):
            self.raises(Mover(PILE), InvalidEvent, ("drop", i))
        mover = moved(PILE, [("say", (2, (0, 1))), ("say", (0, (1,)))])
        for i in (2, 3, -1, -2, 10 ** 29, True, False, None, "0", (0,), (), [0], {0: 0}, (0, (1,)), [[0]]):
            self.raises(mover, InvalidEvent, ("drop", i))
        self.assertEqual(mover.drop(1), 0)
        self.raises(mover, InvalidEvent, ("drop", 1))

    def test_any_values(self):
        mover = moved(PILE, [("read", (0, 1), "ab"), ("say", (2, (0, 1))), ("say", (0, (1,)))])
        for value in WRONG:
            self.raises(mover, InvalidEvent, ("read", value, "a"))
            if value not in ("", "a"):
                self.raises(mover, InvalidEvent, ("read", (0, 0), value))
            if value != (0, (1,)):
                self.raises(mover, InvalidEvent, ("say", value))
            if repr(value) not in ("0", "1"):
                self.raises(mover, InvalidEvent, ("drop", value))

    def test_as_a_desk(self):
        rng = random.Random(281)
        for _ in range(60):
            pile = some_pile(rng, 4)
            mover, desk = Mover(pile), Desk(pile)
            for _ in range(10):
                event = some_event(rng, desk.case())
                kinds = []
                for one in (mover, desk):
                    try:
                        make(one, event)
                        kinds.append(None)
                    except (InvalidEvent, Refused) as error:
                        kinds.append(type(error))
                self.assertEqual(kinds[0], kinds[1])
                self.assertEqual(exact(mover.case()), exact(desk.case()))


class Equal(Movers):
    def equal(self, one, other, right):
        self.assertIs(one == other, right)
        self.assertIs(other == one, right)
        self.assertIs(one != other, not right)

    def test_piles(self):
        self.equal(Mover(PILE), Mover((1, 3, tuple(PILE[2]))), True)
        self.equal(Mover(PILE), Mover((2, 3, PILE[2])), False)
        self.equal(Mover(PILE), Mover((1, 3, PILE[2][:2])), False)
        self.equal(Mover(PILE), Mover(ONE), False)

    def test_logs(self):
        calls = [("read", (0, 0), "ab"), ("say", (2, (1,))), ("trim",), ("drop", 0), ("trim",)]
        for many in range(6):
            for other in range(6):
                self.equal(moved(PILE, calls[:many]), moved(PILE, calls[:other]), many == other)
        self.equal(moved(PILE, [("read", (0, 0), "a")]), moved(PILE, [("read", (0, 0), "ab"), ("read", (0, 0), "a")]), False)
        self.equal(moved(PILE, [("read", (0, 0), "abc")]), moved(PILE, [("read", (0, 0), "acz")]), False)
        self.equal(moved(PILE, [("say", (0, (1,)))] * 2 + [("drop", 0)]), moved(PILE, [("say", (0, (1,)))] * 2 + [("drop", 1)]), False)
        self.equal(moved(PILE, [("say", (0, (1,)))] * 2 + [("drop", 0)]), moved(PILE, [("say", (0, (1,)))] * 2 + [("trim",)]), False)

    def test_what_is_not_in_the_log_counts_for_nothing(self):
        mover = moved(PILE, [("say", (0, (1,))), ("trim",)])
        mover.undo()
        mover.undo()
        self.equal(mover, Mover(PILE), True)
        mover.read((0, 0), "a")
        self.raises(mover, Refused, ("read", (0, 0), "c"))
        self.raises(mover, InvalidEvent, ("drop", 0))
        self.equal(mover, moved(PILE, [("read", (0, 0), "a")]), True)
        self.equal(mover, mover, True)

    def test_other_kinds(self):
        mover = moved(PILE, [("read", (0, 0), "ab")])
        for value in (None, 0, True, "", PILE, mover.case(), mover.order(), mover.log(), {}, [], (), Mover, Desk(PILE), object()):
            self.equal(mover, value, False)
            self.equal(Mover(PILE), value, False)


class Runs(Movers):
    def run_of(self, rng, pile, many):
        """A drawn run of calls, held against a plain record; returns how often each kind of call came."""
        mover, record = Mover(pile), Record(pile)
        order = rng.sample(range(len(pile[2])), len(pile[2]))
        tally = {}
        for _ in range(many):
            kind = self.one_call(rng, mover, record, order if rng.random() < 0.8 else None)
            tally[kind] = tally.get(kind, 0) + 1
            self.compared(mover, record)
        entries = mover.log()
        self.assertEqual(len(entries), len(record.steps) - 1)
        for number, entry in enumerate(entries):
            self.assertTrue(record.entry_holds(number, entry), (pile, entries, number))
        self.assertIs(is_mover_log(pile, entries), True)
        other = moved(pile, [step[0] for step in record.steps[1:]])
        self.assertTrue(mover == other)
        self.assertEqual(told(mover), told(other))
        return tally

    def one_call(self, rng, mover, record, order):
        drawn = rng.random()
        if drawn < 0.12:
            beyond = len(record.steps) == 1
            self.assertEqual(mover.undo(), record.undo())
            return "beyond" if beyond else "undo"
        if drawn < 0.25:
            dropped = mover.trim()
            self.assertEqual(dropped, record.trim())
            return "trim" if dropped else "empty trim"
        event = some_event(rng, record.steps[-1][1], order)
        number = record.make(event)
        if number == "invalid":
            self.raises(mover, InvalidEvent, event)
        elif number == "refused":
            jam = self.raises(mover, Refused, event).jam
            self.assertTrue(plain.jam_holds(plain.behind(mover.case(), event), jam))
        else:
            self.assertEqual(make(mover, event), number)
            self.assertIs(type(number), int)
            return event[0] if number == 0 else "moved"
        return number

    def compared(self, mover, record):
        call, case, order, number = record.steps[-1]
        self.assertEqual(exact(mover.case()), exact(case))
        self.assertEqual(exact(mover.order()), exact(order))
        self.assertEqual(exact(mover.book()), exact(plain_books.base(plain.all_orders(case))))
        self.assertEqual([entry[0] for entry in mover.log()],
                         ["trim" if step[0] == ("trim",) else step[0] for step in record.steps[1:]])

    def test_by_the_document(self):
        rng = random.Random(282)
        tally = {}
        for _ in range(170):
            for kind, many in self.run_of(rng, some_pile(rng, 5), 14).items():
                tally[kind] = tally.get(kind, 0) + many
        kinds = ("read", "say", "drop", "moved", "undo", "beyond", "invalid", "refused", "trim", "empty trim")
        self.assertGreater(min(tally.get(kind, 0) for kind in kinds), 20, tally)

    def test_ten_sheets(self):
        rng = random.Random(283)
        sheets = tuple((0, 0, tuple("".join(rng.choice("abc.") for _ in range(8)) for _ in range(8))) for _ in range(10))
        for pile in (TEN, STACK, (8, 8, sheets)):
            mover = Mover(pile)
            order = rng.sample(range(10), 10)
            began = perf_counter()
            tally = {"made": 0, "refused": 0, "invalid": 0, "trim": 0}
            for _ in range(60):
                tally[self.large_call(rng, mover, order)] += 1
            self.assertLess(perf_counter() - began, 3 * LONGEST)
            self.assertGreater(min(tally.values()), 0, tally)
            self.assertEqual(mover.book(), base_of(mover.case()))
            self.assertIs(is_mover_log(pile, mover.log()), True)

    def large_call(self, rng, mover, order):
        """A call to a large mover; what it does is what the functions say that look at it."""
        case, ahead = mover.case(), mover.order()
        if rng.random() < 0.1:
            mover.trim()
            return "trim"
        event = some_event(rng, case, order)
        try:
            number = make(mover, event)
        except Refused as error:
            self.assertIs(is_jam(plain.behind(case, event), error.jam), True)
            return "refused"
        except InvalidEvent:
            return "invalid"
        self.assertEqual((mover.order(), number), nearest(mover.case(), ahead))
        self.assertIs(is_order(mover.case(), mover.order()), True)
        event_told, move, values = mover.log()[-1]
        self.assertEqual(event_told, event)
        self.assertIs(is_way(case, ahead, mover.order(), move), True)
        self.assertFalse(any(is_order(mover.case(), row) for row in move[:-1]))
        self.assertIs(shows_near(mover.case(), ahead, values, number), True)
        return "made"


if __name__ == "__main__":
    unittest.main()
