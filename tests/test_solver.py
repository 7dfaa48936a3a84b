"""What [9] needs: numbers that meet conditions, or that there are none."""

import random
import unittest

from lesslater.solver import solution
from tests import reference


def some_conditions(chance, many):
    """Return conditions with small factors, of all kinds."""
    rows = []
    for _ in range(chance.randint(1, 7)):
        factors = tuple(chance.choice((-2, -1, 0, 0, 1, 1, 3)) for _ in range(many))
        rows.append((factors, chance.choice(((0, 1), (1, 1), (-1, 2), (-2, 3))), chance.choice((">=", ">", "="))))
    return tuple(rows)


class SolutionTest(unittest.TestCase):
    def assert_solved(self, rows, many):
        found = solution(rows, many)
        self.assertEqual(len(found), many)
        self.assertTrue(reference.are_met(rows, found))

    def test_no_conditions(self):
        self.assert_solved((), 0)
        self.assert_solved((), 2)

    def test_one_condition(self):
        for kind in (">=", ">", "="):
            for constant in ((-3, 2), (0, 1), (3, 2)):
                for factor in (-2, 1):
                    self.assert_solved((((factor, 0), constant, kind),), 2)

    def test_factors_of_0(self):
        for constant, kinds in (((1, 1), (">=", ">")), ((0, 1), (">=", "=")), ((-1, 1), ())):
            for kind in (">=", ">", "="):
                rows = (((0,), constant, kind),)
                with self.subTest(rows):
                    if kind in kinds:
                        self.assert_solved(rows, 1)
                    else:
                        self.assertIsNone(solution(rows, 1))

    def test_between_two_bounds(self):
        self.assert_solved((((1,), (-1, 1), ">="), ((-1,), (1, 1), ">=")), 1)
        self.assert_solved((((1,), (-1, 1), ">"), ((-1,), (10 ** 40 + 1, 10 ** 40), ">")), 1)
        for kinds in ((">", ">="), (">=", ">"), (">", ">"), (">", "="), ("=", ">")):
            self.assertIsNone(solution((((1,), (-1, 1), kinds[0]), ((-1,), (1, 1), kinds[1])), 1))

    def test_conditions_that_follow_from_others(self):
        row = ((1, -1), (0, 1), "=")
        self.assert_solved((row, row, ((-1, 1), (0, 1), "="), ((2, -2), (0, 1), ">=")), 2)
        self.assertIsNone(solution((row, ((2, -2), (0, 1), ">")), 2))
        self.assertIsNone(solution((row, ((2, -2), (1, 1), "=")), 2))

    def test_against_elimination(self):
        chance = random.Random(6)
        outcomes = {True: 0, False: 0}
        for _ in range(1500):
            many = chance.randint(1, 4)
            rows = some_conditions(chance, many)
            can_be = reference.can_be_met(rows, many)
            outcomes[can_be] += 1
            with self.subTest(rows):
                if can_be:
                    self.assert_solved(rows, many)
                else:
                    self.assertIsNone(solution(rows, many))
        self.assertGreater(min(outcomes.values()), 300)


if __name__ == "__main__":
    unittest.main()
