"""The interface: each name exists, is defined in its own file, and takes the arguments that are listed."""

import importlib
import inspect
import unittest

FUNCTIONS = {
    "piles": ("is_pile(value)", "is_case(value)", "is_view(pile, value)", "is_saying(pile, value)", "covered(pile)"),
    "orders": ("is_order(case, value)", "find_order(case)", "seen(pile, order)"),
    "jams": ("taken(case)", "find_jam(case)", "is_jam(case, value)"),
    "above": ("find_above(case, s, t)", "find_held(case, s, t)", "is_held(case, s, t, value)", "above_table(case)"),
    "counts": ("count_orders(case)", "nth_order(case, n)", "number_of(case, order)"),
    "places": ("places(case, s)", "order_with(case, s, place)"),
    "letters": ("letter_counts(case, cell)", "order_showing(case, cell, letter)", "best_cell(case)"),
    "second": ("second_counts(case, cell)", "order_second(case, cell, letter)"),
    "parts": ("find_part(case)", "is_part(case, value)", "find_part_jam(case)", "is_part_jam(case, value)"),
    "misread": ("fewest_misread(case)", "find_misread(case)", "find_values(case)", "shows(case, value, number)"),
    "below": ("is_glass_order(glass, value)", "find_glass(glass)", "find_glass_table(glass)",
              "is_glass_table(glass, value)"),
    "comparing": ("find_only(case, other)", "implies(case, other)", "same_orders(case, other)", "narrowed(case)"),
    "cores": ("find_core(case)", "is_core(case, value)"),
    "loose": ("is_loose(value)", "is_loose_case(value)", "case_at(loose_case, placing)", "find_placing(loose_case)",
              "find_bars(loose_case)", "is_bars(loose_case, value)", "count_placings(loose_case)",
              "sure_spots(loose_case)"),
    "logs": ("log(desk)", "is_log(pile, value)", "replayed(pile, log)"),
    "following": ("find_breach(case, saying)", "find_ground(case, saying)", "is_ground(case, saying, value)"),
    "topsets": ("top_sets(case)", "fitting(case, some)", "paths(case, s)", "tight_sayings(case, s)"),
    "books": ("is_book(n, value)", "meets(book, row)", "base_of(case)", "find_source(case, saying)",
              "is_source(case, saying, value)", "find_book_ground(book, saying)", "is_book_ground(book, saying, value)"),
    "standing": ("find_standing(case, saying)", "is_standing(case, saying, value)"),
    "ways": ("distance(row, other)", "find_way(case, order, other)", "is_way(case, order, other, value)",
             "next_orders(case, order)"),
    "nearest": ("nearest(case, row)", "farthest(case, row)", "find_near_values(case, row)",
                "shows_near(case, row, value, number)"),
    "distances": ("distances(case, row)", "order_apart(case, row, number)", "pair_counts(case)"),
    "deciding": ("fewest_readings(case, asked)", "find_plan(case, asked)", "find_hold(case, asked, m)",
                 "is_plan(case, asked, m, value)", "is_hold(case, asked, m, value)"),
    "moverlogs": ("first_mover_fault(pile, value)", "is_mover_log(pile, value)", "mover_behind(pile, log)"),
}

CLASSES = {
    "desk": {"Desk(pile)": ("read(self, cell, reading)", "say(self, saying)", "drop(self, i)", "undo(self)", "case(self)",
                            "order(self)", "__eq__(self, other)")},
    "movers": {"Mover(pile)": ("read(self, cell, reading)", "say(self, saying)", "drop(self, i)", "trim(self)", "undo(self)",
                               "case(self)", "order(self)", "book(self)", "log(self)", "__eq__(self, other)")},
}

ERRORS = {"LaidsheetsError": None, "InvalidEvent": "(event)", "Refused": "(jam)"}


class Interface(unittest.TestCase):
    def test_functions(self):
        for name in FUNCTIONS:
            module = importlib.import_module("laidsheets." + name)
            for line in FUNCTIONS[name]:
                function = getattr(module, line.partition("(")[0])
                self.assertTrue(inspect.isfunction(function))
                self.assertEqual(function.__module__, module.__name__)
                self.assertEqual(function.__name__ + str(inspect.signature(function)), line)

    def test_classes(self):
        for name in CLASSES:
            module = importlib.import_module("laidsheets." + name)
            for line in CLASSES[name]:
                made = getattr(module, line.partition("(")[0])
                self.assertTrue(inspect.isclass(made))
                self.assertEqual(made.__module__, module.__name__)
                self.assertEqual(made.__name__ + str(inspect.signature(made)), line)
                for method in CLASSES[name][line]:
                    own = vars(made)[method.partition("(")[0]]
                    self.assertEqual(own.__name__ + str(inspect.signature(own)), method)

    def test_errors(self):
        module = importlib.import_module("laidsheets.errors")
        for name in ERRORS:
            error = getattr(module, name)
            self.assertTrue(inspect.isclass(error))
            self.assertEqual(error.__module__, module.__name__)
            if ERRORS[name] is not None:
                self.assertEqual(str(inspect.signature(error)), ERRORS[name])


if __name__ == "__main__":
    unittest.main()
