"""What [9] to [14] need: numbers that meet conditions, how great a sum of them can be, or why there are none."""

import random
import unittest
from fractions import Fraction

from lesslater.solver import Table, solution, solution_with, table_of
from tests import reference


def some_conditions(chance, many):
    """Return conditions with small factors, of all kinds."""
    rows = []
    for _ in range(chance.randint(1, 7)):
        factors = tuple(chance.choice((-2, -1, 0, 0, 1, 1, 3)) for _ in range(many))
        rows.append((factors, chance.choice(((0, 1), (1, 1), (-1, 2), (-2, 3))), chance.choice((">=", ">", "="))))
    return tuple(rows)


def within_bounds(chance, many):
    """Return conditions of all kinds, among them bounds of each number."""
    rows = list(some_conditions(chance, many))
    for at in range(many):
        factors = tuple(int(place == at) for place in range(many))
        rows.append((factors, (chance.randint(0, 4), 1), ">="))
        rows.append((tuple(-factor for factor in factors), (chance.randint(0, 4), 3), chance.choice((">=", ">"))))
    chance.shuffle(rows)
    return tuple(rows)


class SolutionTest(unittest.TestCase):
    def assert_solved(self, rows, many):
        found = solution(rows, many)
        self.assertEqual(len(found), many)
        self.assertTrue(reference.are_met(rows, found))

    def test_no_conditions(self):
        self.assert_solved((), 0)
        self.assert_solved((), 2)

    def test_one_condition(self):
        for kind in (">=", ">", "="):
            for constant in ((-3, 2), (0, 1), (3, 2)):
                for factor in (-2, 1):
                    self.assert_solved((((factor, 0), constant, kind),), 2)

    def test_factors_of_0(self):
        for constant, kinds in (((1, 1), (">=", ">")), ((0, 1), (">=", "=")), ((-1, 1), ())):
            for kind in (">=", ">", "="):
                rows = (((0,), constant, kind),)
                with self.subTest(rows):
                    if kind in kinds:
                        self.assert_solved(rows, 1)
                    else:
                        self.assertIsNone(solution(rows, 1))

    def test_between_two_bounds(self):
        self.assert_solved((((1,), (-1, 1), ">="), ((-1,), (1, 1), ">=")), 1)
        self.assert_solved((((1,), (-1, 1), ">"), ((-1,), (10 ** 40 + 1, 10 ** 40), ">")), 1)
        for kinds in ((">", ">="), (">=", ">"), (">", ">"), (">", "="), ("=", ">")):
            self.assertIsNone(solution((((1,), (-1, 1), kinds[0]), ((-1,), (1, 1), kinds[1])), 1))

    def test_conditions_that_follow_from_others(self):
        row = ((1, -1), (0, 1), "=")
        self.assert_solved((row, row, ((-1, 1), (0, 1), "="), ((2, -2), (0, 1), ">=")), 2)
        self.assertIsNone(solution((row, ((2, -2), (0, 1), ">")), 2))
        self.assertIsNone(solution((row, ((2, -2), (1, 1), "=")), 2))

    def test_against_elimination(self):
        chance = random.Random(6)
        outcomes = {True: 0, False: 0}
        for _ in range(1500):
            many = chance.randint(1, 4)
            rows = some_conditions(chance, many)
            can_be = reference.can_be_met(rows, many)
            outcomes[can_be] += 1
            with self.subTest(rows):
                if can_be:
                    self.assert_solved(rows, many)
                else:
                    self.assertIsNone(solution(rows, many))
        self.assertGreater(min(outcomes.values()), 300)


class TableTest(unittest.TestCase):
    def assert_clash(self, rows, many, weights):
        self.assertEqual(len(weights), len(rows))
        for weight, (_, _, kind) in zip(weights, rows):
            self.assertTrue(weight >= 0 or kind == "=")
        for at in range(many):
            self.assertEqual(sum(weight * factors[at] for weight, (factors, _, _) in zip(weights, rows)), 0)
        total = sum(weight * Fraction(*constant) for weight, (_, constant, _) in zip(weights, rows))
        is_above = any(weight > 0 and kind == ">" for weight, (_, _, kind) in zip(weights, rows))
        self.assertTrue(total < 0 or (total == 0 and is_above))

    def test_weights_tell_why_there_are_none(self):
        chance = random.Random(7)
        many_clashes = 0
        for _ in range(1500):
            many = chance.randint(1, 4)
            rows = some_conditions(chance, many)
            table = table_of(rows, many)
            if not table.settle():
                many_clashes += 1
                self.assert_clash(rows, many, table.clash())
        self.assertGreater(many_clashes, 300)

    def test_conditions_entered_one_by_one(self):
        chance = random.Random(8)
        for _ in range(600):
            many = chance.randint(1, 4)
            rows = some_conditions(chance, many)
            table, is_right, entered = Table(many), True, 0
            while is_right and entered < len(rows):
                table.enter(rows[entered])
                entered += 1
                is_right = table.settle()
            self.assertIs(is_right, reference.can_be_met(rows, many))
            if is_right:
                self.assertTrue(reference.are_met(rows, table.found_durations()))
            else:
                self.assert_clash(rows[:entered], many, table.clash())

    def test_greatest_sums(self):
        chance = random.Random(9)
        outcomes = {True: 0, False: 0}
        while min(outcomes.values()) < 60:
            many = chance.randint(1, 3)
            rows = within_bounds(chance, many)
            table = table_of(rows, many)
            if table.settle():
                factors = tuple(chance.randint(-3, 3) for _ in range(many))
                (top, bottom), is_met = table.greatest(factors)
                outcomes[is_met] += 1
                self.assertFalse(reference.can_be_met(rows + ((factors, (-top, bottom), ">"),), many))
                self.assertIs(reference.can_be_met(rows + ((factors, (-top, bottom), "="),), many), is_met)
                near = reference.pair_of(Fraction(-top, bottom) + Fraction(1, 10 ** 9))
                self.assertTrue(reference.can_be_met(rows + ((factors, near, ">"),), many))
                found = table.found_durations()
                self.assertTrue(reference.are_met(rows, found))
                end = sum(factor * Fraction(*pair) for factor, pair in zip(factors, found))
                self.assertIs(end == Fraction(top, bottom), is_met)

    def test_a_twin_goes_on_by_itself(self):
        rows = (((1, 0), (-1, 3), ">="), ((-1, 0), (2, 1), ">="), ((1, -1), (0, 1), "="))
        table = table_of(rows, 2)
        self.assertTrue(table.settle())
        twin = table.twin()
        found = table.found_durations()
        twin.enter(((0, 1), (-1, 7), ">"))
        twin.greatest((1, 1))
        self.assertEqual(table.found_durations(), found)
        self.assertEqual((table.kinds, table.scale), (["free", "free", ">=", ">=", "="], 3))
        self.assertEqual(solution_with(table, ((1, 0), (-2, 1), "=")), ((2, 1), (2, 1)))
        self.assertIsNone(solution_with(table, ((1, 0), (-2, 1), ">")))
        self.assertEqual(table.found_durations(), found)


if __name__ == "__main__":
    unittest.main()
