"""Promise [14], and what [3] and [9] say of it."""

import itertools
import random
import unittest
from fractions import Fraction

from lesslater.courses import chains, conditions, courses
from lesslater.errors import BadPlan, NotBeside, TooMany
from lesslater.pairs import apart_at, is_alike, later
from lesslater.plans import Plan
from lesslater.runs import durations_error, times, whole_end
from lesslater.solver import solution
from tests.samples import (
    LOOSE, NEAR, P, Q, SIXTY, SIXTY_ONE, T, grid, is_of_tuples, jumpy_plans, plan_of, some_durations,
    some_plans,
)

CALLS = (later, apart_at, is_alike)


def end_of(plan, durations):
    return Fraction(*whole_end(plan, durations))


def ends_of(plan, durations):
    return [end for _, end in times(plan, durations)]


def others(plan, seed):
    """Return plans beside one: with another order, other workers, a pair more and a pair less."""
    chance = random.Random(seed)
    found = [plan.with_order(tuple(chance.sample(plan.order, len(plan)))), plan.with_workers(plan.workers % 3 + 1)]
    if len(plan) > 1:
        try:
            found.append(plan.with_pair(*chance.sample(range(len(plan)), 2)))
        except BadPlan:
            pass
    if plan.pairs():
        found.append(plan.without_pair(*chance.choice(plan.pairs())))
    return found


def can_differ(one, other, differences):
    """Return whether some pair of courses has durations for which a difference of two chains is above 0."""
    many = len(one)
    for mine, yours in itertools.product(courses(one), courses(other)):
        rows = conditions(one, mine) + conditions(other, yours)
        for left, right in differences(mine, chains(one, mine), yours, chains(other, yours)):
            factors = tuple(left.count(number) - right.count(number) for number in range(many))
            if solution(rows + ((factors, (0, 1), ">"),), many) is not None:
                return True
    return False


def is_small(one, other):
    """Return whether two plans have so few courses that all pairs of them can be gone through."""
    try:
        return len(courses(one)) * len(courses(other)) <= 200
    except TooMany:
        return False


def of_wholes(mine, my_chains, yours, your_chains):
    return [(your_chains[yours[-1][0]], my_chains[mine[-1][0]])]


def of_tasks(mine, my_chains, yours, your_chains):
    both = list(zip(my_chains, your_chains))
    return both + [(right, left) for left, right in both]


class ExampleTest(unittest.TestCase):
    def test_examples_of_section_7(self):
        self.assertEqual(
            (later(P, Q), is_alike(P, Q), is_alike(P, P.with_pair(0, 3))), (None, False, True),
        )


class TwoPlansTest(unittest.TestCase):
    def assert_later(self, one, other, told):
        found = later(one, other)
        self.assertIs(found is not None, told)
        if found is not None:
            self.assertIsNone(durations_error(one, found))
            self.assertGreater(end_of(other, found), end_of(one, found))

    def assert_apart(self, one, other, told):
        found = apart_at(one, other)
        self.assertIs(found is not None, told)
        self.assertIs(is_alike(one, other), not told)
        if found is not None:
            self.assertIsNone(durations_error(one, found))
            self.assertNotEqual(ends_of(one, found), ends_of(other, found))

    def test_another_order(self):
        self.assert_later(P, Q, False)
        self.assert_later(Q, P, True)
        self.assert_apart(P, Q, True)
        self.assert_apart(Q, P, True)

    def test_other_workers(self):
        for plan in (P, Q, NEAR):
            self.assert_later(plan, plan.with_workers(1), True)
            self.assert_later(plan.with_workers(1), plan, False)
            self.assert_apart(plan, plan.with_workers(1), True)
            self.assert_apart(plan.with_workers(1), plan, True)

    def test_a_pair_less_makes_later(self):
        # With the pair (0, 1) the long task 4 is begun at once.
        steady = P.with_pair(0, 1)
        value = ((2, 1), (2, 1), (2, 1), (2, 1), (5, 1))
        self.assertLess(end_of(steady, value), end_of(P, value))
        self.assert_later(steady, P, True)
        self.assert_apart(steady, P, True)
        self.assert_apart(P, steady, True)

    def test_a_pair_that_changes_nothing(self):
        self.assert_apart(P, P.with_pair(0, 3), False)
        chain = plan_of([(1, 9)] * 3, [(0, 1), (1, 2)])
        self.assert_apart(chain, chain.with_pair(0, 2), False)
        self.assert_later(chain, chain.with_pair(0, 2), False)
        loose = plan_of([(1, 2), (3, 4), (1, 9)])
        # Task 0 has ended for certain where task 2 begins.
        self.assert_apart(loose, loose.with_pair(0, 2), False)
        self.assert_apart(loose, loose.with_pair(1, 2), True)

    def test_an_order_that_changes_nothing(self):
        self.assert_apart(P, P.with_order((1, 0, 2, 3, 4)), False)
        self.assert_apart(P.with_workers(1), P.with_workers(1).with_order((1, 0, 2, 3, 4)), True)

    def test_ends_of_tasks_alone(self):
        # The whole takes as long in either order, the tasks end at other times.
        one = plan_of([(1, 2), (1, 2)], workers=1)
        other = one.with_order((1, 0))
        self.assert_later(one, other, False)
        self.assert_later(other, one, False)
        self.assert_apart(one, other, True)

    def test_apart_only_at_a_tie(self):
        # Only where tasks 0 and 1 end together it matters which of 2 and 3 is taken first.
        one = plan_of([(2, 2), (2, 3), (1, 1), (4, 4)], [(0, 2), (1, 3)], (0, 1, 2, 3), 2)
        three = plan_of([(2, 2), (2, 3), (1, 1), (4, 4), (1, 1)], [(0, 2), (1, 3), (1, 4)], (0, 1, 2, 3, 4), 2)
        self.assert_apart(one, one.with_order((0, 1, 3, 2)), False)
        turned = three.with_order((0, 1, 3, 4, 2))
        found = apart_at(three, turned)
        self.assertEqual(found[1], (2, 1))
        self.assert_apart(three, turned, True)

    def test_a_plan_beside_itself(self):
        for plan in (P, Q, NEAR, SIXTY, *some_plans(81, 20, most=4), *jumpy_plans(82, 10)):
            for other in (plan, Plan(plan.tasks, plan.order, plan.workers)):
                self.assert_later(plan, other, False)
                self.assert_apart(plan, other, False)

    def test_against_all_pairs_of_courses(self):
        outcomes = {(True, True): 0, (False, True): 0, (False, False): 0}
        for plan in (P, NEAR, *some_plans(83, 15, most=4), *jumpy_plans(84, 15)):
            for other in others(plan, 9):
                if is_small(plan, other):
                    told = (can_differ(plan, other, of_wholes), can_differ(plan, other, of_tasks))
                    outcomes[told] += 1
                    with self.subTest(tasks=plan.tasks, order=plan.order, workers=plan.workers, other=other.order):
                        self.assert_later(plan, other, told[0])
                        self.assert_apart(plan, other, told[1])
        self.assertGreater(min(outcomes.values()), 8)

    def test_nothing_drawn_is_later_or_apart_where_none_is_told(self):
        for plan in (P, Q, NEAR, SIXTY, *some_plans(85, 25), *jumpy_plans(86, 25)):
            for other in others(plan, 10):
                try:
                    is_later, is_apart = later(plan, other) is not None, apart_at(plan, other) is not None
                except TooMany:
                    continue
                self.assertLessEqual(is_later, is_apart)
                for value in some_durations(plan, 11, 12) + grid(plan, 1):
                    if not is_later:
                        self.assertLessEqual(end_of(other, value), end_of(plan, value))
                    if not is_apart:
                        self.assertEqual(ends_of(other, value), ends_of(plan, value))


class NotBesideTest(unittest.TestCase):
    def assert_not_beside(self, one, other):
        for call in CALLS:
            for left, right in ((one, other), (other, one)):
                with self.assertRaises(NotBeside):
                    call(left, right)
                with self.assertRaises(NotBeside):
                    call(one=left, other=right)

    def test_other_numbers_of_tasks(self):
        for many in (1, 2, 3, 4):
            self.assert_not_beside(plan_of([(1, 2)] * 5), plan_of([(1, 2)] * many))

    def test_another_low(self):
        for number in range(5):
            task = P[number]
            self.assert_not_beside(P, P.with_task(number, (task[0], (1, 2), task[2])))

    def test_another_high(self):
        for number in range(5):
            task = P[number]
            self.assert_not_beside(P, P.with_task(number, (task[0], task[1], (11, 2))))

    def test_tasks_in_another_place(self):
        self.assert_not_beside(plan_of([(1, 2), (1, 3)]), plan_of([(1, 3), (1, 2)]))

    def test_it_comes_ahead_of_too_many(self):
        self.assert_not_beside(LOOSE, LOOSE.with_task(4, ((), (1, 1), (8, 1))))
        self.assert_not_beside(SIXTY_ONE, LOOSE)
        self.assert_not_beside(P, LOOSE)


class ConventionsTest(unittest.TestCase):
    def test_too_many_courses(self):
        for plan in (LOOSE, SIXTY_ONE):
            fine = plan.with_workers(1)
            for one, other in ((plan, plan), (plan, fine), (fine, plan)):
                for call in CALLS:
                    with self.assertRaises(TooMany) as caught:
                        call(one, other)
                    self.assertEqual(caught.exception.limit, 60)
            for call in CALLS:
                call(fine, fine)

    def test_arguments_by_name(self):
        for call in CALLS:
            self.assertEqual(call(one=P, other=Q), call(P, Q))
            self.assertEqual(call(other=P, one=Q), call(Q, P))

    def test_equal_calls_return_equal_results(self):
        for call in CALLS:
            self.assertEqual(call(Q, P), call(Plan(Q.tasks, Q.order, Q.workers), Plan(P.tasks, P.order, P.workers)))

    def test_results(self):
        for one, other in ((P, Q), (Q, P), (P, P)):
            self.assertTrue(is_of_tuples(later(one, other)))
            self.assertTrue(is_of_tuples(apart_at(one, other)))
            self.assertIs(type(is_alike(one, other)), bool)

    def test_arguments_are_not_changed(self):
        for call in CALLS:
            call(P, Q)
        self.assertEqual((P.tasks, P.order, P.workers), (T, (0, 1, 2, 3, 4), 2))
        self.assertEqual((Q.tasks, Q.order, Q.workers), (T, (0, 1, 4, 2, 3), 2))


if __name__ == "__main__":
    unittest.main()
