"""The interface: each name with its arguments, and what [3] says of all of them."""

import importlib
import inspect
import unittest

from tests.samples import P

# Each function, class and method with its arguments as the interface writes them.
FUNCTIONS = {
    "fractions": ("is_fraction(value)", "fraction(top, bottom=1)"),
    "runs": (
        "durations_error(plan, value)", "times(plan, value)", "whole_end(plan, value)", "course_of(plan, value)",
        "moments(plan, value)",
    ),
    "courses": (
        "is_beginning(plan, value)", "running(plan, beginning)", "next_groups(plan, beginning)",
        "chains(plan, beginning)", "conditions(plan, beginning)", "point(plan, beginning)", "courses(plan)",
    ),
    "lateness": (
        "latest(plan)", "earliest(plan)", "beyond(plan, day)", "is_by(plan, day)", "paper(plan, day)",
        "paper_holds(plan, day, value)",
    ),
    "steady": ("shorter_later(plan)", "less_holds(plan, value)", "is_steady(plan)", "fewest_pairs(plan, most)"),
    "pairs": ("later(one, other)", "apart_at(one, other)", "is_alike(one, other)"),
    "texts": ("plan_text(plan)", "read_plan(value)"),
    "plans": ("Plan(tasks, order, workers)",),
    "walkers": ("Walker(plan)",),
    "benches": ("Bench(plan, day)",),
    "desks": ("Desk(bench)",),
}
METHODS = {
    ("plans", "Plan"): (
        "with_task(self, number, task)", "with_order(self, order)", "with_workers(self, workers)", "pairs(self)",
        "with_pair(self, before, behind)", "without_pair(self, before, behind)", "apart(self)",
    ),
    ("walkers", "Walker"): ("__call__(self, group)", "back(self, many=1)", "twin(self)"),
    ("benches", "Bench"): (
        "is_steady(self)", "set_task(self, number, task)", "set_order(self, order)", "set_workers(self, workers)",
        "add_pair(self, before, behind)", "drop_pair(self, before, behind)", "set_day(self, value)", "undo(self)",
        "tried(self, function)",
    ),
    ("desks", "Desk"): ("say(self, line)",),
}
PROPERTIES = {
    ("plans", "Plan"): ("tasks", "order", "workers"),
    ("walkers", "Walker"): ("plan", "beginning", "groups"),
    ("benches", "Bench"): ("plan", "day", "version", "news"),
    ("desks", "Desk"): ("history",),
}


def brought(module, name):
    return getattr(importlib.import_module(f"lesslater.{module}"), name)


class InterfaceTest(unittest.TestCase):
    def test_functions_and_classes(self):
        for module, told in FUNCTIONS.items():
            for text in told:
                with self.subTest(text):
                    name = text.partition("(")[0]
                    found = brought(module, name)
                    self.assertEqual(name + str(inspect.signature(found)), text)
                    self.assertEqual(found.__module__, f"lesslater.{module}")

    def test_methods(self):
        for place, told in METHODS.items():
            for text in told:
                with self.subTest(place, text=text):
                    name = text.partition("(")[0]
                    self.assertEqual(name + str(inspect.signature(vars(brought(*place))[name])), text)

    def test_properties(self):
        for place, names in PROPERTIES.items():
            for name in names:
                with self.subTest(place, name=name):
                    found = vars(brought(*place))[name]
                    self.assertIsInstance(found, property)
                    self.assertEqual((found.fset, found.fdel), (None, None))

    def test_objects_that_compare_are_no_keys(self):
        for place in METHODS:
            if place[1] != "Desk":
                self.assertIsNone(brought(*place).__hash__)
        with self.assertRaises(TypeError):
            hash(P)


if __name__ == "__main__":
    unittest.main()
