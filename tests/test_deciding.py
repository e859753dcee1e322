import random
import unittest

from laidsheets.deciding import fewest_readings, find_hold, find_plan, is_hold, is_plan
from laidsheets.orders import find_order
from laidsheets.piles import covered
from tests import plain, plain_movers
from tests.calls import call
from tests.plain_books import met_cases
from tests.samples import CASE, EITHER, FIRST, FREE, JAMMED, ONE, TEN, WRONG, changed_once, some_cases, stacked

STACK = stacked("abcdefghij")
ASK = ((0, 0), (0, 1), (0, 2))
PLAN = {(): (0, 1), (((0, 1), "a"),): (0, 2)}
HOLD = {((), (0, 0)): "a", ((), (0, 1)): "a", ((), (0, 2)): "b"}
# Of each pair of sheets either one can lie above: all three cells must be read.
PAIRS = (1, 3, ((0, 0, ("a",)), (0, 0, ("b",)), (0, 1, ("a",)), (0, 1, ("b",)), (0, 2, ("a",)), (0, 2, ("b",))))


class Found(unittest.TestCase):
    def told(self, case, asked, fewest):
        """Tests the plan, and that there is a hold for each number below the least one."""
        self.assertEqual(call(self, fewest_readings, case, asked), fewest, (case, asked))
        plan = call(self, find_plan, case, asked)
        for m in range(len(asked) + 2):
            self.assertIs(call(self, is_plan, case, asked, m, plan), m >= fewest)
            hold = call(self, find_hold, case, asked, m)
            self.assertEqual(hold is None, m >= fewest, (case, asked, m))
            if hold is not None:
                for other in (m, m + 1, max(0, m - 1)):
                    self.assertIs(call(self, is_hold, case, asked, other, hold), other == m)
        return plan

    def test_ordinary(self):
        self.told(FIRST, ASK, 2)
        self.assertEqual(self.told(CASE, ASK, 0), {})
        self.told(FREE, ASK, 3)
        self.told(FREE, ASK[:2], 2)
        self.assertEqual(find_hold(FIRST, ASK, 0), {})
        self.assertIsNone(find_hold(FIRST, ASK, 2))
        self.assertEqual(self.told(EITHER, ((0, 0), (0, 2)), 0), {})
        self.assertEqual(self.told(EITHER, ((0, 1),), 1), {(): (0, 1)})
        self.assertEqual(self.told(EITHER, ASK, 1), {(): (0, 1)})

    def test_one_sheet(self):
        for view in ({}, {(0, 0): "ab"}):
            self.assertEqual(self.told((ONE, view, ()), ((0, 0),), 0), {})

    def test_one_cell(self):
        self.assertEqual(self.told(FIRST, ((0, 0),), 0), {})
        self.assertEqual(self.told(FIRST, ((0, 1),), 1), {(): (0, 1)})
        self.assertEqual(find_hold(FIRST, ((0, 1),), 0), {})

    def test_cells_that_tell_nothing_of_one_another(self):
        for many in (1, 2, 3):
            plan = self.told((PAIRS, {}, ()), ASK[:many], many)
            self.assertEqual(len(plan), 2 ** many - 1)
        self.told((PAIRS, {(0, 1): "b"}, ()), ASK, 2)

    def test_numbers_beyond_what_is_needed(self):
        for m in (3, 4, 5, 6, 100, 10 ** 29):
            self.assertIs(call(self, is_plan, FIRST, ASK, m, PLAN), True)
            self.assertIs(call(self, is_plan, CASE, ASK, m, {}), True)
            self.assertIsNone(call(self, find_hold, FIRST, ASK, m))
            self.assertIsNone(call(self, find_hold, CASE, ASK, m))
            self.assertIs(call(self, is_hold, FIRST, ASK, m, HOLD), False)
            self.assertIs(call(self, is_hold, FIRST, ASK, m, {}), False)

    def test_sheets_of_one_letter(self):
        case = ((1, 2, ((0, 0, ("aa",)), (0, 0, ("ab",)), (0, 0, ("bb",)))), {}, ())
        self.assertEqual(self.told((case[0], {(0, 0): "a"}, ()), ASK[:2], 1), {(): (0, 1)})
        self.told(case, ASK[:2], 2)

    def test_by_the_document(self):
        tally = {}
        rng = random.Random(271)
        cases = list(met_cases(272, 130))
        frees = [(case[0], {}, ()) for case, orders in cases[:40] if len(case[0][2]) < 5]
        for case, orders in cases + [(case, plain.all_orders(case)) for case in frees]:
            for asked in plain_movers.all_asked(rng, case[0]):
                shown = plain_movers.showings(case, orders, asked)
                fewest = plain_movers.fewest(shown, asked)
                plan = self.told(case, asked, fewest)
                self.assertTrue(plain_movers.plan_holds(shown, asked, fewest, plan))
                for m in range(fewest):
                    self.assertTrue(plain_movers.hold_holds(shown, asked, m, find_hold(case, asked, m)))
                tally[fewest] = tally.get(fewest, 0) + 1
        self.assertGreater(min(tally[fewest] for fewest in (0, 1, 2, 3)), 3, tally)

    def test_ten_sheets(self):
        cells = sorted(covered(TEN))
        rng = random.Random(273)
        for asked in [(cell,) for cell in cells[:2]] + [tuple(sorted(rng.sample(cells, 2))) for _ in range(2)]:
            self.found(TEN, {}, (), asked)
        self.told((STACK, {}, ()), ((0, 0),), 1)
        sheets = tuple((0, 0, tuple("".join(rng.choice("abc.") for _ in range(8)) for _ in range(8))) for _ in range(10))
        for asked in (((0, 0),), ((1, 1), (5, 5)), ((0, 0), (1, 2), (3, 4), (5, 6), (7, 7))):
            self.found((8, 8, sheets), {}, (), asked)
        tally = {}
        for case in some_cases(274, 40, 10, 8):
            if find_order(case) is not None:
                cells = sorted(covered(case[0]))
                asked = tuple(sorted(rng.sample(cells, min(len(cells), rng.randint(1, 3)))))
                fewest = self.found(*case, asked)
                tally[fewest] = tally.get(fewest, 0) + 1
        self.assertGreater(min(tally[fewest] for fewest in (0, 1, 2)), 2, tally)

    def found(self, pile, view, sayings, asked):
        case = (pile, view, sayings)
        fewest = call(self, fewest_readings, case, asked)
        self.told(case, asked, fewest)
        return fewest

    def test_eleven_sheets_and_six_cells_raise_nothing(self):
        case = (stacked("abcdefghijk"), {}, ())
        self.assertEqual(fewest_readings(case, ((0, 0),)), 1)
        self.assertEqual(find_plan(case, ((0, 0),)), {(): (0, 0)})
        asked = tuple(sorted(covered(TEN))[:6])
        self.assertIs(is_plan((TEN, {}, ()), asked, fewest_readings((TEN, {}, ()), asked), find_plan((TEN, {}, ()), asked)), True)


class IsPlan(unittest.TestCase):
    def told(self, expected, case, asked, m, value):
        self.assertIs(call(self, is_plan, case, asked, m, value), expected, repr((case, asked, m, value))[:400])

    def test_ordinary(self):
        for m in range(5):
            self.told(m >= 2, FIRST, ASK, m, PLAN)
            self.told(True, CASE, ASK, m, {})
            self.told(False, FIRST, ASK, m, {})

    def test_what_is_decided_is_no_key(self):
        self.told(False, CASE, ASK, 1, {(): (0, 0)})
        self.told(False, FIRST, ASK, 2, {**PLAN, (((0, 1), "b"),): (0, 2)})
        self.told(False, FIRST, ASK, 3, {**PLAN, (((0, 1), "a"), ((0, 2), "b")): (0, 0)})

    def test_what_is_not_told_by_it_is_no_key(self):
        for told in ((((0, 0), "a"),), (((0, 2), "b"),), (((0, 1), "c"),), (((0, 1), ""),), (((0, 3), "a"),), (((0, 0), "a"), ((0, 1), "a"))):
            self.told(False, FIRST, ASK, 3, {**PLAN, told: (0, 2)})

    def test_cells_at_which_one_letter_alone_can_be_told(self):
        first = {(): (0, 0), (((0, 0), "a"),): (0, 1), (((0, 0), "a"), ((0, 1), "a")): (0, 2)}
        for m in range(5):
            self.told(m >= 3, FIRST, ASK, m, first)
        self.told(True, FIRST, ASK, 3, {(): (0, 1), (((0, 1), "a"),): (0, 0), (((0, 0), "a"), ((0, 1), "a")): (0, 2)})
        self.told(False, FIRST, ASK, 2, {(): (0, 1), (((0, 1), "a"),): (0, 0), (((0, 0), "a"), ((0, 1), "a")): (0, 2)})

    def test_cells_that_were_read_or_are_not_asked(self):
        for cell in ((0, 1), (0, 3), (1, 0), (-1, 0), (0, True), (0, 2.0 == 2), [0, 2], (0,), (0, 2, 0), 2, None, "b", ((0, 2),), (), {}):
            self.told(False, FIRST, ASK, 3, {(): (0, 1), (((0, 1), "a"),): cell})
            self.told(repr(cell) == "(0, 1)", FIRST, ASK[:2], 3, {(): cell})
        self.told(False, FIRST, ASK[:2], 3, {(): (False, 1)})
        self.told(False, FIRST, ASK, 3, {(): (0, 1), (((0, 1), "a"),): (False, 2)})

    def test_a_key_left_out(self):
        self.told(False, FIRST, ASK, 2, {(): (0, 1)})
        self.told(False, FIRST, ASK, 2, {(((0, 1), "a"),): (0, 2)})

    def test_keys_of_other_kinds(self):
        for told in ((((False, 1), "a"),), (((0, True), "a"),), ((0, 1), "a"), (((0, 1), "a", 0),), (((0, 1),),), ("a",), ((("0", 1), "a"),),
                     (((0, 1), None),), (((0, 1), ("a",)),), None, 0, "", True, ((),), (((0, 1), 0),), ((1, "a"),), (None,)):
            self.told(False, FIRST, ASK, 2, {(): (0, 1), told: (0, 2)})
            self.told(False, FIRST, ASK, 2, {**PLAN, told: (0, 2)} if told not in PLAN else {told: (0, 2)})
        for value in (list(PLAN.items()), tuple(PLAN.items()), [PLAN], (PLAN,), (0, 1), None, True, 0, "", [], ()):
            self.told(False, FIRST, ASK, 2, value)
            self.told(False, CASE, ASK, 2, value)

    def test_told_cells_ascend(self):
        case = (PAIRS, {}, ())
        plan = find_plan(case, ASK)
        told = [key for key in plan if len(key) == 2][0]
        self.told(False, case, ASK, 3, {(key if key != told else told[::-1]): plan[key] for key in plan})

    def test_any_value(self):
        for value in WRONG:
            self.told(False, FIRST, ASK, 3, value)
            self.told(repr(value) == "{}", CASE, ASK, 3, value)
            self.told(False, FIRST, ASK, 3, {(): value})
            self.told(False, FIRST, ASK, 3, {(): (0, 1), (((0, 1), "a"),): value})

    def test_changed_in_one_place_or_for_other_cells(self):
        tally = [0, 0]
        rng = random.Random(275)
        for case, orders in met_cases(276, 400, 4):
            for asked in plain_movers.all_asked(rng, case[0]):
                shown = plain_movers.showings(case, orders, asked)
                plan = find_plan(case, asked)
                other = find_plan(case, rng.choice(plain_movers.all_asked(rng, case[0])))
                for value in (changed_once(rng, plan), self.longer(rng, shown, asked), other):
                    m = rng.randrange(len(asked) + 1)
                    right = plain_movers.plan_holds(shown, asked, m, value)
                    tally[right] += 1
                    self.told(right, case, asked, m, value)
        self.assertGreater(min(tally), 200, tally)

    def longer(self, rng, shown, asked):
        """A plan that reads cells by chance."""
        plan, reached = {}, [()]
        while reached:
            told = reached.pop()
            if not plain_movers.is_decided(shown, told):
                plan[told] = rng.choice(plain_movers.unread(asked, told))
                reached += plain_movers.answers(shown, told, plan[told])
        return plan


class IsHold(unittest.TestCase):
    def told(self, expected, case, asked, m, value):
        self.assertIs(call(self, is_hold, case, asked, m, value), expected, repr((case, asked, m, value))[:400])

    def test_ordinary(self):
        for m in range(5):
            self.told(m == 1, FIRST, ASK, m, HOLD)
            self.told(m == 0, FIRST, ASK, m, {})
            self.told(False, CASE, ASK, m, {})
            self.told(False, CASE, ASK, m, {((), (0, 0)): "a", ((), (0, 1)): "b", ((), (0, 2)): "b"})

    def test_each_letter(self):
        for key in HOLD:
            self.told(False, FIRST, ASK, 1, {one: HOLD[one] for one in HOLD if one != key})
            for letter in ("a", "b", "c", "", "ab", "A", None, True, 0, ("a",), ["a"], (), {}):
                value = {**HOLD, key: letter}
                self.told(letter == HOLD[key], FIRST, ASK, 1, value)
        self.told(False, FIRST, ASK, 1, {**HOLD, ((), (0, 1)): "b"})
        self.told(False, FIRST, ASK, 1, {**HOLD, ((), (0, 2)): "c"})

    def test_other_keys(self):
        for key in (((), (0, 3)), ((((0, 0), "a"),), (0, 1)), ((((0, 1), "a"),), (0, 2)), ((), (0, 0), ()), ((),), (), None, 0, "a", True,
                    ((((0, 0), "a"),), (0, 0)), ((0, 0), ()), ((), 0), ((), None), (None, (0, 0)), ((), (0,)), ((((0, 5), "a"),), (0, 0))):
            self.told(False, FIRST, ASK, 1, {**HOLD, key: "a"})
        for key in HOLD:
            for new in (((), (False, key[1][1])), ((), (0, str(key[1][1]))), (None, key[1]), ((), list(key[1])[0]), key + (0,)):
                self.told(False, FIRST, ASK, 1, {(new if one == key else one): HOLD[one] for one in HOLD})
        self.told(False, FIRST, ASK, 1, {((), (0, 0)): "a", ((), (0, True)): "a", ((), (0, 2)): "b"})

    def test_deeper(self):
        case = (PAIRS, {}, ())
        hold = find_hold(case, ASK, 2)
        self.assertEqual(len(hold), 9)
        self.told(True, case, ASK, 2, hold)
        for key in hold:
            self.told(False, case, ASK, 2, {one: hold[one] for one in hold if one != key})
            other = {**hold, key: "b" if hold[key] == "a" else "a"}
            shown = plain_movers.showings(case, plain.all_orders(case), ASK)
            self.told(plain_movers.hold_holds(shown, ASK, 2, other), case, ASK, 2, other)
        told = [key for key in hold if key[0] != ()][0]
        wrong = ((((0, False), told[0][0][1]),), told[1]) if told[0][0][0] == (0, 0) else ((((False, 1), "a"),), told[1])
        self.told(False, case, ASK, 2, {(wrong if one == told else one): hold[one] for one in hold})

    def test_other_kinds(self):
        for value in (list(HOLD.items()), tuple(HOLD.items()), [HOLD], (HOLD,), "a", None, True, 0, "", [], ()):
            for m in (0, 1, 2):
                self.told(False, FIRST, ASK, m, value)

    def test_any_value(self):
        for value in WRONG:
            for m in (0, 1):
                self.told(m == 0 and repr(value) == "{}", FIRST, ASK, m, value)
                self.told(False, FIRST, ASK, m, {((), (0, 0)): value})
            self.told(value == "a", FIRST, ASK, 1, {**HOLD, ((), (0, 1)): value})

    def test_changed_in_one_place_or_for_another_number(self):
        tally = [0, 0]
        rng = random.Random(277)
        for case, orders in met_cases(278, 400, 4):
            for asked in plain_movers.all_asked(rng, case[0]):
                shown = plain_movers.showings(case, orders, asked)
                for m in range(fewest_readings(case, asked)):
                    hold = find_hold(case, asked, m)
                    letters = {key: rng.choice(sorted({one[key[1]] for one in shown})) for key in hold}
                    for value, other in ((changed_once(rng, hold), m), (hold, rng.randrange(5)), ({**hold, **letters}, m)):
                        right = plain_movers.hold_holds(shown, asked, other, value)
                        tally[right] += 1
                        self.told(right, case, asked, other, value)
        self.assertGreater(min(tally), 100, tally)


if __name__ == "__main__":
    unittest.main()
