"""Promises [12] and [13], [2] (c), (e) and (f), and what [3] and [9] say of them."""

import itertools
import unittest
from fractions import Fraction

from lesslater.courses import chains, conditions, courses
from lesslater.errors import BadMost, BadPlan, TooMany
from lesslater.runs import durations_error, whole_end
from lesslater.solver import solution
from lesslater.steady import fewest_pairs, is_steady, less_holds, shorter_later
from tests.samples import (
    LOOSE, LOOSE_8, NEAR, P, Q, SIXTY, SIXTY_ONE, T, WIDE, WIDE_ONE, any_values, between, grid, is_of_tuples,
    jumpy_plans, no_integers, parting_plans, plan_of, renumbered, replaced, some_durations, some_plans, stretched,
)

LONG = ((3, 1), (2, 1), (2, 1), (2, 1), (5, 1))
LESS = (LONG, 0, (1, 1))

# Plans that only the fourth pair makes steady.
FOURTH = (
    plan_of([(4, 4), (1, 3), (2, 2), (6, 10), (3, 5)], [(4, 1), (4, 2)], (4, 0, 1, 2, 3)),
    plan_of([(6, 9), (6, 7), (4, 5), (1, 3), (6, 7)], [(4, 2), (4, 3)], (4, 0, 2, 3, 1)),
)


def end_of(plan, durations):
    return Fraction(*whole_end(plan, durations))


def is_later(plan, triple):
    """Return whether the whole ends later with less in the place of a duration."""
    durations, number, less = triple
    return end_of(plan, replaced(durations, number, less)) > end_of(plan, durations)


def drawn(plan, parts):
    """Return triples of durations, a task and less for it, all some parts on the way between bounds."""
    found = []
    for value in grid(plan, parts):
        for number, (_, low, high) in enumerate(plan.tasks):
            for part in range(parts):
                less = between(low, high, part, parts)
                if Fraction(*less) < Fraction(*value[number]):
                    found.append((value, number, less))
    return found


def moved(row, number):
    """Return a condition that tells of another duration, the last one, in the place of that of a task."""
    factors, constant, kind = row
    return (replaced(factors, number, 0) + (factors[number],), constant, kind)


def some_pair_of_courses_jumps(plan):
    """Return whether less makes later from any course to any other one, however far they are apart."""
    many = len(plan)
    rows = []
    for course in courses(plan):
        last = chains(plan, course)[course[-1][0]]
        end = tuple(last.count(number) for number in range(many))
        rows.append((conditions(plan, course), (end, (0, 1), ">")))
    for (mine, end), (yours, other_end) in itertools.product(rows, rows):
        for number in range(many):
            table = [(factors + (0,), constant, kind) for factors, constant, kind in mine]
            table += [moved(row, number) for row in yours]
            shorter = [0] * many + [-1]
            shorter[number] = 1
            table.append((tuple(shorter), (0, 1), ">"))
            ends = zip(moved(other_end, number)[0], end[0] + (0,))
            table.append((tuple(one - other for one, other in ends), (0, 1), ">"))
            if solution(table, many + 1) is not None:
                return True
    return False


def pairs_to_add(plan):
    """Return all pairs that can be added to a plan, ascending."""
    found = []
    for before, behind in itertools.permutations(range(len(plan)), 2):
        if (before, behind) not in plan.pairs():
            try:
                plan.with_pair(before, behind)
            except BadPlan:
                continue
            found.append((before, behind))
    return found


class ExampleTest(unittest.TestCase):
    def test_examples_of_section_6(self):
        self.assertEqual((is_steady(P), is_steady(Q), less_holds(P, LESS)), (False, True, True))
        self.assertEqual((fewest_pairs(Q, 1), fewest_pairs(P, 0), fewest_pairs(P, 1)), ((), None, ((0, 1),)))


class DecidedCase(unittest.TestCase):
    def assert_decided(self, plan, told):
        found = shorter_later(plan)
        self.assertIs(is_steady(plan), told)
        self.assertIs(found is None, told)
        if found is not None:
            durations, number, less = found
            self.assertIsNone(durations_error(plan, durations))
            self.assertIsNone(durations_error(plan, replaced(durations, number, less)))
            self.assertLess(Fraction(*less), Fraction(*durations[number]))
            self.assertTrue(is_later(plan, found))
            self.assertIs(less_holds(plan, found), True)
            self.assertTrue(is_of_tuples(found))


class ShorterLaterTest(DecidedCase):
    def test_both_outcomes(self):
        self.assert_decided(P, False)
        self.assert_decided(NEAR, False)
        self.assert_decided(Q, True)
        self.assert_decided(SIXTY, True)

    def test_one_worker(self):
        for plan in (P, NEAR, LOOSE, *some_plans(61, 20)):
            self.assert_decided(plan.with_workers(1), True)

    def test_as_many_workers_as_tasks(self):
        for plan in some_plans(62, 30, most=3):
            self.assert_decided(plan.with_workers(3), True)

    def test_lows_that_are_highs(self):
        for plan in (P, NEAR, *some_plans(63, 20), *jumpy_plans(64, 20)):
            for at in (1, 2):
                bounds = [(task[at], task[at]) for task in plan.tasks]
                self.assert_decided(plan_of(bounds, plan.pairs(), plan.order, plan.workers), True)

    def test_a_tie_is_crossed_or_met_or_not(self):
        # Task 1 ends at 2: the end jumps where task 0 ends with it.
        for low, high, told in (
            ((1, 1), (3, 1), False), ((2, 1), (3, 1), False), ((2, 1), (2, 1), True), ((21, 10), (3, 1), True),
            ((1, 1), (19, 10), True), ((1, 1), (2, 1), True), ((2, 1), (2 * 10 ** 20 + 1, 10 ** 20), False),
        ):
            with self.subTest(low=low, high=high):
                self.assert_decided(P.with_task(0, ((), low, high)), told)

    def test_where_the_jump_is_above_the_tie(self):
        # With task 0 at less than 2 the whole ends by 13, at 2 at 12: a tie is the lesser end here.
        for low, high, told in (
            ((1, 1), (2, 1), False), ((19, 10), (2, 1), False), ((2, 1), (3, 1), True), ((1, 1), (19, 10), True),
        ):
            with self.subTest(low=low, high=high):
                self.assert_decided(NEAR.with_task(0, ((), low, high)), told)

    def test_against_all_pairs_of_courses(self):
        outcomes = {True: 0, False: 0}
        for plan in (P, Q, NEAR, *some_plans(65, 20, most=4), *jumpy_plans(66, 60), *parting_plans(73, 80)):
            if len(courses(plan)) <= 14:
                told = not some_pair_of_courses_jumps(plan)
                outcomes[told] += 1
                with self.subTest(tasks=plan.tasks, order=plan.order, workers=plan.workers):
                    self.assert_decided(plan, told)
        self.assertGreater(min(outcomes.values()), 8)

    def test_nothing_drawn_is_shorter_and_later(self):
        outcomes = {True: 0, False: 0}
        for plan in (P, Q, NEAR, *jumpy_plans(67, 60), *parting_plans(74, 60)):
            told = any(is_later(plan, triple) for triple in drawn(plan, 2))
            outcomes[told] += 1
            if told:
                self.assert_decided(plan, False)
        self.assertGreater(min(outcomes.values()), 8)
        for plan in some_plans(68, 30):
            try:
                is_steady(plan)
            except TooMany:
                continue
            if any(is_later(plan, triple) for triple in drawn(plan, 2)[:2000]):
                self.assert_decided(plan, False)

    def test_tasks_numbered_anew_and_bounds_some_times_as_long(self):
        for plan in (P, Q, NEAR, *jumpy_plans(69, 20)):
            told = is_steady(plan)
            self.assert_decided(renumbered(plan, (3, 1, 4, 0, 2)), told)
            self.assert_decided(stretched(plan, 10 ** 20 + 1, 7), told)

    def test_only_across_a_tie(self):
        many = 0
        for plan in (P, NEAR, *jumpy_plans(70, 60)):
            if not is_steady(plan):
                many += 1
                self.assertTrue(any(len(group) > 1 for course in courses(plan) for group in course))
        self.assertGreater(many, 10)


class WideTest(DecidedCase):
    """A plan with as many courses as there may be, and plans beside it."""

    def test_the_plan(self):
        self.assertEqual(len(courses(WIDE)), 60)
        self.assert_decided(WIDE, True)
        for most in (0, 1):
            self.assertEqual(fewest_pairs(WIDE, most), ())

    def test_one_course_more(self):
        self.assertEqual(len(WIDE_ONE.apart()), 8)
        for call in (shorter_later, is_steady, lambda plan: fewest_pairs(plan, 0), lambda plan: fewest_pairs(plan, 1)):
            with self.assertRaises(TooMany) as caught:
                call(WIDE_ONE)
            self.assertEqual(caught.exception.limit, 60)

    def test_fewer_workers(self):
        for workers in (1, 2):
            self.assert_decided(WIDE.with_workers(workers), True)

    def test_fewer_workers_and_a_pair(self):
        two = WIDE.with_workers(2)
        for order, pair in (
            ((0, 1, 2, 3, 4), (0, 2)), ((0, 1, 2, 4, 3), (1, 2)), ((0, 1, 3, 4, 2), (0, 4)), ((0, 1, 3, 4, 2), (1, 3)),
        ):
            plan = two.with_order(order).with_pair(*pair)
            self.assert_decided(plan, False)
            self.assert_decided(plan.with_workers(3), True)
            self.assertIsNone(fewest_pairs(plan, 0))
            (found,) = fewest_pairs(plan, 1)
            self.assert_decided(plan.with_pair(*found), True)

    def test_all_lists_and_pairs(self):
        # How many are not steady was found by comparing each course with all that begin beside it.
        many = 0
        for order in itertools.permutations(range(5)):
            plan = WIDE.with_order(order).with_workers(2)
            for pair in pairs_to_add(plan):
                other = plan.with_pair(*pair)
                found = shorter_later(other)
                if found is not None:
                    many += 1
                    self.assertTrue(is_later(other, found))
        self.assertEqual(many, 128)


class LessHoldsTest(unittest.TestCase):
    def assert_less(self, told, value, plan=P):
        self.assertIs(less_holds(plan, value), told)
        self.assertIs(less_holds(plan=plan, value=value), told)

    def test_triples(self):
        self.assert_less(True, LESS)
        for less in ((2, 1), (3, 2), (5, 4)):
            self.assert_less(True, (LONG, 0, less))
        self.assert_less(True, (replaced(LONG, 0, (2 * 10 ** 20 + 1, 10 ** 20)), 0, (2, 1)))

    def test_just_those_that_make_later(self):
        outcomes = {True: 0, False: 0}
        for plan in (P, Q, NEAR, *jumpy_plans(71, 12)):
            for triple in drawn(plan, 2):
                told = is_later(plan, triple)
                outcomes[told] += 1
                self.assertIs(less_holds(plan, triple), told)
        self.assertGreater(min(outcomes.values()), 20)

    def test_less_that_is_not_below(self):
        short = replaced(LONG, 0, (1, 1))
        for less in ((3, 1), (4, 1), (31, 10)):
            self.assert_less(False, (LONG, 0, less))
        # What is more makes the whole later here.
        self.assertGreater(end_of(P, replaced(short, 0, (2, 1))), end_of(P, short))
        for less in ((1, 1), (2, 1), (3, 2)):
            self.assert_less(False, (short, 0, less))

    def test_less_that_is_below_the_low(self):
        for less in ((1, 2), (99, 100), (0, 1), (-1, 1)):
            self.assert_less(False, (LONG, 0, less))
        for number in (1, 2, 3, 4):
            self.assert_less(False, (LONG, number, (1, 1)))

    def test_no_fraction(self):
        for less in ((2, 2), (4, 2), (1, 0), [1, 1], (1,), (1, 1, 1), (True, 1), (1, True), 1, "1", None, 2, ((1, 1),)):
            self.assert_less(False, (LONG, 0, less))

    def test_no_number_of_a_task(self):
        for number in (False, True, -1, -5, 5, 10 ** 40, None, "0", (0,), [0], (0, 1)):
            self.assert_less(False, (LONG, number, (1, 1)))

    def test_no_durations(self):
        for value in (
            LONG[:4], LONG + ((1, 1),), list(LONG), (), None, replaced(LONG, 0, (4, 1)), replaced(LONG, 0, 3),
            replaced(LONG, 1, (1, 1)), replaced(LONG, 4, [5, 1]), replaced(LONG, 4, (10, 2)),
            replaced(LONG, 0, (True, 1)), replaced(LONG, 0, None),
        ):
            self.assert_less(False, (value, 0, (1, 1)))

    def test_no_triples(self):
        for value in (
            (), LESS[:1], LESS[:2], LESS[1:], LESS + ((1, 1),), LESS + LESS, list(LESS), (LESS,), [LESS],
            (LESS[1], LESS[0], LESS[2]), (0, (1, 1), LONG), dict(enumerate(LESS)),
        ):
            self.assert_less(False, value)

    def test_other_kinds(self):
        for value in any_values():
            self.assert_less(False, value)
            for at in range(3):
                if value != LESS[at]:
                    self.assert_less(False, replaced(LESS, at, value))
            for at in range(5):
                self.assert_less(False, (replaced(LONG, at, value), 0, (1, 1)))

    def test_another_plan(self):
        self.assert_less(False, LESS, Q)
        self.assert_less(False, LESS, P.with_pair(0, 1))
        self.assert_less(True, LESS, P.with_pair(0, 3))

    def test_plans_with_too_many_courses(self):
        for plan in (LOOSE, LOOSE_8, SIXTY_ONE):
            for value in (None, (), LESS):
                self.assert_less(False, value, plan)
            for value in some_durations(plan, 8, 10):
                low = plan[0][1]
                if value[0] != low:
                    self.assert_less(is_later(plan, (value, 0, low)), (value, 0, low), plan)


class FewestPairsTest(unittest.TestCase):
    def assert_raises(self, error, plan, most):
        for call in (lambda: fewest_pairs(plan, most), lambda: fewest_pairs(most=most, plan=plan)):
            with self.assertRaises(error) as caught:
                call()
        return caught.exception

    def assert_bad_most(self, plan, most):
        self.assertIs(self.assert_raises(BadMost, plan, most).most, most)

    def test_steady_plans(self):
        for plan in (Q, P.with_workers(1), plan_of([(1, 9)]), plan_of([(1, 9)] * 3, workers=3)):
            for most in (0, 1):
                self.assertEqual(fewest_pairs(plan, most), ())

    def test_no_pair_is_not_enough(self):
        for plan in (P, NEAR):
            self.assertIsNone(fewest_pairs(plan, 0))

    def test_the_first_pair(self):
        many, places = 0, set()
        for plan in (P, NEAR, *FOURTH, *jumpy_plans(72, 30)):
            if is_steady(plan):
                self.assertEqual((fewest_pairs(plan, 0), fewest_pairs(plan, 1)), ((), ()))
                continue
            many += 1
            self.assertIsNone(fewest_pairs(plan, 0))
            (pair,) = fewest_pairs(plan, 1)
            pairs = pairs_to_add(plan)
            self.assertTrue(is_steady(plan.with_pair(*pair)))
            places.add(pairs.index(pair))
            for other in pairs[:pairs.index(pair)]:
                self.assertFalse(is_steady(plan.with_pair(*other)))
        self.assertGreater(many, 8)
        self.assertLessEqual({0, 3}, places)

    def test_the_fourth_pair(self):
        for plan in FOURTH:
            self.assertEqual(pairs_to_add(plan)[:4], [(0, 1), (0, 2), (0, 3), (0, 4)])
            self.assertEqual(fewest_pairs(plan, 1), ((0, 4),))

    def test_bad_most(self):
        for most in (2, -1, 3, 10 ** 40, *no_integers()):
            with self.subTest(most):
                self.assert_bad_most(P, most)
                self.assert_bad_most(Q, most)

    def test_bad_most_comes_first(self):
        for plan in (LOOSE, LOOSE_8, SIXTY):
            for most in (2, -1, True, False, None, "1", (1,), [1]):
                self.assert_bad_most(plan, most)

    def test_too_many_pairs_apart(self):
        nine = plan_of([(1, 1)] * 5, [(0, 1)], workers=1)
        self.assertEqual(len(nine.apart()), 9)
        # Of LOOSE and SIXTY_ONE both are too many: the pairs are told.
        for plan in (nine, LOOSE, SIXTY, SIXTY_ONE):
            for most in (0, 1):
                self.assertEqual(self.assert_raises(TooMany, plan, most).limit, 8)

    def test_too_many_courses(self):
        self.assertEqual(len(LOOSE_8.apart()), 8)
        for most in (0, 1):
            self.assertEqual(self.assert_raises(TooMany, LOOSE_8, most).limit, 60)


class ConventionsTest(unittest.TestCase):
    def test_too_many_courses(self):
        for plan in (LOOSE, LOOSE_8, SIXTY_ONE):
            for call in (shorter_later, is_steady):
                with self.assertRaises(TooMany) as caught:
                    call(plan)
                self.assertEqual(caught.exception.limit, 60)

    def test_arguments_by_name(self):
        for plan in (P, Q):
            self.assertEqual(shorter_later(plan=plan), shorter_later(plan))
            self.assertIs(is_steady(plan=plan), is_steady(plan))
            self.assertEqual(fewest_pairs(most=1, plan=plan), fewest_pairs(plan, 1))
        self.assertIs(less_holds(value=LESS, plan=P), True)

    def test_equal_calls_return_equal_results(self):
        other = P.with_order(P.order)
        self.assertEqual(shorter_later(P), shorter_later(other))
        self.assertEqual(fewest_pairs(P, 1), fewest_pairs(other, 1))

    def test_results_are_tuples_at_every_depth(self):
        for found in (shorter_later(P), shorter_later(Q), fewest_pairs(P, 1), fewest_pairs(Q, 1)):
            self.assertTrue(is_of_tuples(found))

    def test_arguments_are_not_changed(self):
        value = [[[3, 1]], 0, {"a": [1]}]
        less_holds(P, value)
        less_holds(P, tuple(value))
        with self.assertRaises(BadMost):
            fewest_pairs(P, value)
        self.assertEqual(value, [[[3, 1]], 0, {"a": [1]}])
        self.assertEqual((P.tasks, P.order, P.workers), (T, (0, 1, 2, 3, 4), 2))


if __name__ == "__main__":
    unittest.main()
