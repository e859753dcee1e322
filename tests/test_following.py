import random
import unittest

from laidsheets.above import find_held
from laidsheets.following import find_breach, find_ground, is_ground
from laidsheets.orders import find_order, is_order
from tests import plain
from tests.calls import call
from tests.samples import (BOARD, CASE, EITHER, FIRST, FREE, ONE, PILE, TEN, WRONG, changed_once, some_cases, some_sayings,
                           stacked)

GROUND = {0: ("cell", (0, 1)), 2: ("cell", (0, 0))}
STACK = stacked("abcdefghij")


class Found(unittest.TestCase):
    def told(self, case, saying, follows):
        """Tests that a ground is found if the saying follows, and else an order that breaks it."""
        breach, ground = call(self, find_breach, case, saying), call(self, find_ground, case, saying)
        self.assertEqual(breach is None, follows, (case, saying))
        self.assertEqual(ground is not None, follows, (case, saying))
        if follows:
            self.assertTrue(plain.ground_holds(case, saying, ground), (case, saying, ground))
            self.assertIs(call(self, is_ground, case, saying, ground), True)
        else:
            self.assertIs(is_order(case, breach), True)
            self.assertEqual(plain.breaches([breach], saying), [breach])

    def follow(self, case, *follow):
        """Tests that of all sayings just these follow."""
        for saying in plain.all_sayings(case[0]):
            self.told(case, saying, saying in follow)

    def test_ordinary(self):
        self.follow(CASE, (0, (1,)), (0, (1, 2)), (2, (0,)), (2, (1,)), (2, (0, 1)))
        self.follow(FIRST, (2, (0,)), (2, (0, 1)))
        self.follow(EITHER, (0, (2,)), (0, (1, 2)), (1, (2,)), (1, (0, 2)))
        self.follow(FREE)
        self.follow((PILE, {(0, 0): "ac"}, ((1, (0, 2)),)), (1, (0, 2)))

    def test_the_sayings_of_a_case_follow(self):
        case = (STACK, {}, ((0, (1, 2, 3)), (1, (4, 5)), (9, (0, 1))))
        for saying in case[2] + ((9, (0, 4, 5)), (9, (1, 2, 3)), (9, (2, 3, 4, 5)), (0, (1, 2, 3, 9))):
            self.told(case, saying, True)
        for saying in ((0, (1, 2)), (9, (2, 3, 4)), (1, (4,)), (2, (0,)), (9, (0,)), (9, (0, 5))):
            self.told(case, saying, False)

    def test_others_that_hold_only_together(self):
        self.told((STACK, {(0, 0): "ab"}, ()), (9, (0, 1)), True)
        self.told((STACK, {(0, 0): "ab"}, ()), (9, (0,)), False)
        self.told((STACK, {(0, 0): "ab"}, ()), (9, (0, 2, 3, 4, 5, 6, 7, 8)), False)
        self.told((STACK, {(0, 0): "ab"}, ()), (1, (0,)), False)

    def test_by_the_document(self):
        tally = [0, 0]
        for case in some_cases(161, 450):
            orders = plain.all_orders(case)
            if orders:
                for saying in plain.all_sayings(case[0]):
                    right = plain.breaches(orders, saying)
                    self.told(case, saying, not right)
                    self.assertIn(find_breach(case, saying), right or [None])
                    tally[not right] += 1
        self.assertGreater(min(tally), 1000, tally)

    def test_one_other_as_held_jams(self):
        for case in some_cases(162, 100):
            if find_order(case) is not None:
                for s, others in plain.all_sayings(case[0]):
                    if len(others) == 1:
                        self.assertEqual(find_ground(case, (s, others)), find_held(case, others[0], s))

    def test_ten_sheets(self):
        self.told((TEN, {}, ()), (3, (4,)), False)
        self.told((STACK, {(0, 0): "a"}, ()), (9, (0,)), True)
        self.told((STACK, {}, tuple((s, (s - 1,)) for s in range(1, 7))), (6, (0,)), True)
        self.told((STACK, {}, tuple((s, (s - 1,)) for s in range(1, 7))), (7, (0,)), False)
        self.told((BOARD, {(7, 7): "z"}, ()), (0, (1,)), True)
        self.told((BOARD, {(7, 7): "z"}, ()), (0, (2, 3)), False)
        tally = [0, 0]
        rng = random.Random(163)
        for case in some_cases(164, 200, 10, 8):
            if find_order(case) is not None:
                for saying in some_sayings(rng, case[0], None) + case[2]:
                    follows = call(self, find_breach, case, saying) is None
                    tally[follows] += 1
                    self.told(case, saying, follows)
        self.assertGreater(min(tally), 100, tally)

    def test_eleven_sheets_raise_nothing(self):
        case = (stacked("abcdefghijk"), {(0, 0): "k"}, ())
        self.assertEqual(find_ground(case, (0, (10,)))[0], ("cell", (0, 0)))
        self.assertEqual(find_breach(case, (0, (1,)))[0], 10)


class IsGround(unittest.TestCase):
    def told(self, expected, case, saying, value):
        self.assertIs(call(self, is_ground, case, saying, value), expected, repr((case, saying, value))[:400])

    def test_ordinary(self):
        self.told(True, CASE, (2, (1,)), GROUND)
        self.told(False, CASE, (2, (1,)), {2: GROUND[2]})
        self.told(False, CASE, (2, (1,)), {0: GROUND[0]})
        self.told(True, CASE, (0, (1,)), {0: GROUND[0]})
        self.told(True, CASE, (2, (0,)), {2: GROUND[2]})
        self.told(True, CASE, (2, (0, 1)), {2: GROUND[2]})
        self.told(True, CASE, (0, (1, 2)), {0: GROUND[0]})
        self.told(True, EITHER, (0, (2,)), {0: ("saying", 0), 1: ("saying", 1)})
        self.told(False, EITHER, (0, (2,)), {0: ("saying", 0)})
        self.told(True, EITHER, (0, (1, 2)), {0: ("saying", 0)})
        self.told(False, EITHER, (0, (1, 2)), {0: ("saying", 1)})

    def test_s_among_them_and_none_of_the_others(self):
        self.told(True, CASE, (0, (1,)), GROUND)
        self.told(False, CASE, (0, (1, 2)), GROUND)
        self.told(False, CASE, (1, (0,)), {2: GROUND[2]})
        self.told(False, CASE, (2, (0,)), GROUND)
        self.told(False, CASE, (1, (0, 2)), {})
        self.told(False, CASE, (2, (1,)), {})
        self.told(False, FREE, (0, (1,)), {})

    def test_sheets_that_there_are_not(self):
        for s in (3, -1, 10 ** 29):
            self.told(False, CASE, (2, (1,)), {**GROUND, s: ("cell", (0, 0))})

    def test_keys_of_other_kinds(self):
        self.told(False, CASE, (0, (1,)), {False: GROUND[0]})
        for key in (None, "0", (0,), (), False, "cell", (0, 0)):
            self.told(False, CASE, (2, (1,)), {2: GROUND[2], key: GROUND[0]})

    def test_reasons(self):
        for reason in (("cell", (0, 0)), ("cell", (0, 2)), ("cell", (0, 3)), ("cell", [0, 1]), ["cell", (0, 1)], ("cell", (0, True)),
                       ("cell", (False, 1)), ("saying", 0), ("cell",), ("cell", (0, 1), 0), "cell", None, 0, (), {}, ("cell", None),
                       ((0, 1), "cell"), ("Cell", (0, 1)), (0, 1)):
            self.told(False, CASE, (0, (1,)), {0: reason})
            self.told(False, CASE, (2, (1,)), {**GROUND, 0: reason})
        for reason in (("saying", 1), ("saying", -1), ("saying", -2), ("saying", False), ("saying", "0"), ("saying", (0,)),
                       ("saying", None), ("saying", 2), ("cell", (0, 0)), ("cell", 0), ("saying", (0, (1, 2)))):
            self.told(False, EITHER, (0, (1, 2)), {0: reason})

    def test_no_dict(self):
        for value in (list(GROUND.items()), tuple(GROUND.items()), [GROUND], (GROUND,), (0, 2), [0, 2], GROUND[0], None, True, ""):
            self.told(False, CASE, (2, (1,)), value)

    def test_one_sheet_beside_the_others(self):
        self.told(False, (ONE, {}, ()), (0, (1,)), {0: ("cell", (0, 0))})

    def test_any_value(self):
        for value in WRONG:
            for case, saying in ((CASE, (2, (1,))), (EITHER, (0, (2,))), (FREE, (0, (1,)))):
                self.told(False, case, saying, value)
                self.told(False, case, saying, {0: value, 2: GROUND[2]})
                self.told(False, case, saying, {**GROUND, 0: ("cell", value)})
                self.told(False, case, saying, {0: ("saying", value), 1: ("saying", 1)} if repr(value) != "0" else ())
                self.told(False, case, saying, {s: value for s in range(3)})

    def test_changed_in_one_place(self):
        tally = [0, 0]
        rng = random.Random(165)
        for case in some_cases(166, 600, 4):
            if find_order(case) is not None:
                for saying in plain.all_sayings(case[0]):
                    ground = find_ground(case, saying)
                    if ground is not None and rng.random() < 0.5:
                        value = changed_once(rng, ground)
                        tally[plain.ground_holds(case, saying, value)] += 1
                        self.told(plain.ground_holds(case, saying, value), case, saying, value)
                        other = rng.choice(plain.all_sayings(case[0]))
                        tally[plain.ground_holds(case, other, ground)] += 1
                        self.told(plain.ground_holds(case, other, ground), case, other, ground)
        self.assertGreater(min(tally), 100, tally)


if __name__ == "__main__":
    unittest.main()
