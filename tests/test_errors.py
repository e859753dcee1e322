import unittest

from laidsheets.errors import InvalidEvent, LaidsheetsError, Refused
from tests.calls import boxes, exact
from tests.samples import WRONG


class Errors(unittest.TestCase):
    def test_classes(self):
        self.assertTrue(issubclass(LaidsheetsError, ValueError))
        self.assertEqual(InvalidEvent.__bases__, (LaidsheetsError,))
        self.assertEqual(Refused.__bases__, (LaidsheetsError,))

    def test_each_is_caught_by_its_name_and_by_the_common_one(self):
        for made, other in ((InvalidEvent(("drop", 0)), Refused), (Refused({}), InvalidEvent)):
            self.assertNotIsInstance(made, other)
            for name in (LaidsheetsError, ValueError, type(made)):
                with self.assertRaises(name):
                    raise made

    def test_attributes_hold_the_argument(self):
        event = ("read", (0, 3), "a")
        self.assertEqual(InvalidEvent(event).event, event)
        jam = {0: ("cell", (0, 0)), 2: ("saying", 1)}
        self.assertEqual(Refused(jam).jam, jam)
        self.assertFalse(hasattr(InvalidEvent(event), "jam"))
        self.assertFalse(hasattr(Refused(jam), "event"))

    def test_attributes_hold_any_values(self):
        for value in WRONG:
            event = ("read", value, [value])
            self.assertEqual(exact(InvalidEvent(event).event), exact(event))
            self.assertEqual(exact(InvalidEvent(value).event), exact(value))
            self.assertEqual(exact(Refused({0: value}).jam), exact({0: value}))

    def test_attributes_are_copies(self):
        event = ("read", [0, [1]], {"a": [{"b": 2}], (0, 1): ([3],)})
        jam = {0: ("cell", [0, 0]), 1: {2: [3]}}
        for value, held in ((event, InvalidEvent(event).event), (jam, Refused(jam).jam)):
            told = exact(value)
            mine = [id(box) for box in boxes(value)]
            self.assertGreater(len(mine), 2)
            self.assertFalse(set(mine) & {id(box) for box in boxes(held)})
            for box in boxes(held):
                box.clear()
            self.assertEqual(exact(value), told)

    def test_an_error_says_what_it_is_about(self):
        self.assertIn("('drop', 7)", str(InvalidEvent(("drop", 7))))
        self.assertIn("{0: ('saying', 3)}", str(Refused({0: ("saying", 3)})))


if __name__ == "__main__":
    unittest.main()
