import random
import unittest

from laidsheets.desk import Desk
from laidsheets.errors import LaidsheetsError
from laidsheets.logs import is_log, log, replayed
from tests import plain
from tests.calls import call, exact
from tests.desks import made, make
from tests.samples import ONE, PILE, TEN, WRONG, changed_once, shown_at, some_event, some_pile, stacked

EVENTS = [("read", (0, 0), "ab"), ("say", (2, (1,))), ("read", (0, 0), "ac"), ("drop", 0), ("read", (0, 1), "b")]
LOG = [(EVENTS[0], (0, 1, 2)), (EVENTS[1], (1, 0, 2)), (EVENTS[2], (0, 1, 2)), (EVENTS[3], (0, 2, 1)), (EVENTS[4], (1, 0, 2))]


def some_desk(rng, pile, many):
    """A desk behind a drawn run of calls."""
    desk = Desk(pile)
    order = rng.sample(range(len(pile[2])), len(pile[2]))
    for _ in range(many):
        try:
            make(desk, some_event(rng, desk.case(), order))
        except LaidsheetsError:
            desk.undo()
    return desk


class Logs(unittest.TestCase):
    def test_log(self):
        desk = made(PILE, EVENTS)
        entries = call(self, log, desk)
        self.assertEqual([event for event, order in entries], EVENTS)
        self.assertIs(call(self, is_log, PILE, entries), True)
        for many in range(6):
            case = call(self, replayed, PILE, entries[:many])
            self.assertEqual(case, made(PILE, EVENTS[:many]).case())
            if many > 0:
                self.assertTrue(plain.meets(case, entries[many - 1][1]))
        self.assertEqual(call(self, log, Desk(PILE)), [])
        self.assertEqual(call(self, replayed, PILE, []), (PILE, {}, ()))

    def test_replayed(self):
        self.assertEqual(call(self, replayed, PILE, LOG), (PILE, {(0, 0): "a", (0, 1): "b"}, ()))
        self.assertEqual(call(self, replayed, PILE, LOG[:3]), (PILE, {(0, 0): "a"}, ((2, (1,)),)))
        self.assertEqual(call(self, replayed, PILE, [(("say", (0, (1,))), (1, 0, 2))]), (PILE, {}, ((0, (1,)),)))

    def test_orders_depend_only_on_the_pile_and_the_log(self):
        rng = random.Random(151)
        for _ in range(60):
            pile = some_pile(rng, 5)
            desk = some_desk(rng, pile, 15)
            entries = call(self, log, desk)
            self.assertEqual(exact(log(made(pile, [event for event, order in entries]))), exact(entries))

    def test_by_the_document(self):
        rng = random.Random(152)
        for _ in range(150):
            pile = some_pile(rng, 5)
            desk = some_desk(rng, pile, 15)
            entries = call(self, log, desk)
            self.assertTrue(plain.log_holds(pile, entries))
            self.assertIs(call(self, is_log, pile, entries), True)
            self.assertEqual(exact(call(self, replayed, pile, entries)), exact(desk.case()))


class IsLog(unittest.TestCase):
    def told(self, expected, pile, value):
        self.assertIs(call(self, is_log, pile, value), expected, repr((pile, value))[:400])

    def test_ordinary(self):
        for many in range(6):
            self.told(True, PILE, LOG[:many])
        self.told(True, PILE, [(("read", (0, 0), "a"), (0, 1, 2))])
        self.told(False, PILE, [(("read", (0, 0), "a"), (2, 0, 1))])
        self.told(True, ONE, [(("read", (0, 0), "ab"), (0,))] * 5)

    def test_any_order_that_meets_the_case(self):
        for order, right in (((0, 1, 2), True), ((0, 2, 1), True), ((1, 0, 2), True), ((1, 2, 0), False), ((2, 0, 1), False),
                             ((2, 1, 0), False), ((0, 1), False), ((0, 1, 2, 2), False), ((0, 1, 1), False), ((), False)):
            self.told(right, PILE, [(EVENTS[0], order)])
            self.told(right, PILE, [LOG[0], (("say", (1, (0, 2))), order)] if right and order[0] != 1 else [(EVENTS[0], order)])

    def test_an_entry_left_out_twice_or_exchanged(self):
        for at in range(5):
            for value in (LOG[:at] + LOG[at + 1:], LOG[:at + 1] + LOG[at:], LOG + [LOG[at]], [LOG[at]] + LOG):
                self.told(plain.log_holds(PILE, value), PILE, value)
            for other in range(5):
                value = list(LOG)
                value[at], value[other] = value[other], value[at]
                self.told(plain.log_holds(PILE, value), PILE, value)
        self.told(False, PILE, LOG[:1] + LOG[2:])
        self.told(False, PILE, LOG[:4] + LOG[3:])
        self.told(False, PILE, LOG[3:])

    def test_events_that_cannot_be_made(self):
        for event in (("read", (0, 3), "a"), ("read", (0, 0), "aa"), ("read", (0, 0), "ba"), ("say", (0, (0,))), ("say", (3, (0,))),
                      ("drop", 0), ("drop", -1), ("read", (0, 0)), ("read", (0, 0), "a", 0), ("say",), ("say", 0, (1,)), ("drop",),
                      ("undo",), ("Read", (0, 0), "a"), ("", (0, 0), "a"), (None, (0, 0), "a"), ["read", (0, 0), "a"], "read", None,
                      (), {}, 0, ("read", [0, 0], "a"), ("read", (0, False), "a"), ("read", (0, 0), ["a"]), ("say", [0, (1,)]),
                      ("say", (False, (1,))), ("drop", False), ("say", (0, (1,)), 0), ("drop", 0, 0), ((0, 0), "read", "a"),
                      ("trim", ()), ("say", (0, (1,), ())), ("drop", None), ("drop", "0"), (("read",), (0, 0), "a")):
            for order in ((0, 1, 2), (1, 0, 2), (2, 1, 0)):
                self.told(False, PILE, [(event, order)])
                self.told(False, PILE, [LOG[0], (event, order)] if event != ("drop", 0) else [(event, order)])

    def test_a_seventh_saying(self):
        entry = (("say", (1, (0,))), (0, 1, 2))
        for many in range(9):
            self.told(many <= 6, PILE, [entry] * many)
        self.told(True, PILE, [entry] * 6 + [(("drop", 5), (0, 1, 2)), entry])
        self.told(False, PILE, [entry] * 6 + [(("drop", 6), (0, 1, 2))])
        self.told(False, PILE, [entry] * 6 + [(("drop", True), (0, 1, 2))])

    def test_other_kinds(self):
        for value in (tuple(LOG), {0: LOG[0]}, LOG[0], [LOG], [list(LOG[0])], [LOG[0] + (0,)], [LOG[0][:1]], [LOG[0][::-1]],
                      [EVENTS[0]], [EVENTS[0], LOG[0][1]], None, "", (), {}, 0, True, [None], [[]], [()], [{}], [0],
                      [(EVENTS[0], [0, 1, 2])], [(EVENTS[0], None)], [(EVENTS[0], (False, 1, 2))], [(EVENTS[0], (0, True, 2))],
                      [(EVENTS[0], "012")], [(EVENTS[0], {})], [(EVENTS[0], (0, 1, "2"))], [(EVENTS[0], (0, 1, (2,)))]):
            self.told(False, PILE, value)

    def test_any_value(self):
        for value in WRONG:
            self.told(repr(value) == "[]", PILE, value)
            self.told(False, PILE, [value])
            self.told(False, PILE, LOG + [value])
            self.told(False, PILE, [(value, (0, 1, 2))])
            self.told(False, PILE, [(EVENTS[0], value)] if value != (0, 1, 2) else ())
            self.told(False, PILE, [(("read", value, "a"), (0, 1, 2))])
            self.told(value in ("a",), PILE, [(("read", (0, 0), value), (0, 1, 2))])
            self.told(value == (0, (1,)), PILE, [(("say", value), (1, 0, 2))])
            self.told(False, PILE, [(("drop", value), (1, 0, 2))])
            self.told(False, PILE, [((value, (0, (1,))), (1, 0, 2))])

    def test_changed_in_one_place(self):
        rng = random.Random(153)
        tally = [0, 0]
        for _ in range(220):
            pile = some_pile(rng, 4)
            entries = log(some_desk(rng, pile, 12))
            for _ in range(8):
                value = changed_once(rng, entries)
                tally[plain.log_holds(pile, value)] += 1
                self.told(plain.log_holds(pile, value), pile, value)
        self.assertGreater(min(tally), 100, tally)

    def test_a_few_thousand_entries(self):
        rng = random.Random(154)
        full = (8, 8, tuple((0, 0, tuple("".join(rng.choice("abc.") for _ in range(8)) for _ in range(8))) for _ in range(10)))
        for pile in (TEN, stacked("abcdefghij"), full):
            entries, case = self.many_entries(rng, pile, 2500)
            self.assertEqual(len(entries), 2500)
            self.told(True, pile, entries)
            self.assertEqual(call(self, replayed, pile, entries), case)
            self.told(False, pile, entries + [(("drop", 6), entries[-1][1])])
            # The last saying is dropped by the entry behind it.
            self.told(False, pile, entries[:2497] + entries[2498:])

    def many_entries(self, rng, pile, many):
        """The log of a desk behind so many events, by turns a cell that is read, a saying, and a drop of it; and its case."""
        desk = Desk(pile)
        cells = sorted(plain.covered_cells(pile))
        order = list(range(len(pile[2])))
        for number in range(many):
            if number % 3 == 0:
                cell = rng.choice(cells)
                letters = set("abcdefghij") - set(rng.sample("abcdefghij", 2))
                desk.read(cell, "".join(sorted(letters | {shown_at(pile, order, cell)})))
            elif number % 3 == 1:
                s = rng.randrange(1, len(order))
                desk.say((s, (rng.randrange(s),)))
            else:
                desk.drop(0)
        return log(desk), desk.case()


if __name__ == "__main__":
    unittest.main()
