"""Promise [20]."""

import unittest

from lesslater import bounds

TOLD = {
    "MAX_APART": 8,
    "MAX_COURSES": 60,
    "MAX_EDITS": 20,
    "MAX_PAIRS": 1,
    "MAX_TASKS": 5,
    "MAX_WORKERS": 3,
}


class BoundsTest(unittest.TestCase):
    def test_each_bound_has_the_told_value(self):
        for name, told in TOLD.items():
            with self.subTest(name):
                value = getattr(bounds, name)
                self.assertIs(type(value), int)
                self.assertEqual(value, told)


if __name__ == "__main__":
    unittest.main()
