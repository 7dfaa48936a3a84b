"""What [12] and [13] need: just beside which durations the end jumps, and at which groups it can."""

import itertools
import unittest
from fractions import Fraction
from unittest import mock

from lesslater.branches import first_branch, first_state, groups_of, next_state
from lesslater.courses import courses
from lesslater.errors import TooMany
from lesslater.fractions import fraction, is_below
from lesslater.jumps import can_jump, can_part, can_part_yet, first_jump
from lesslater.runs import course_of, durations_error, whole_end
from lesslater.solver import Table
from lesslater.steady import is_steady, less_holds, shorter_later, triple_of
from tests import reference
from tests.samples import (
    LOOSE, NEAR, P, Q, SIXTY, WIDE, jumpy_plans, parting_plans, plan_of, renumbered, replaced, some_plans,
)

# Bounds, pairs, lists and workers of plans with more tasks than there may be, which are not steady. Their sides part
# behind the first group only; those of the last one do because what begins behind a task that moves moves, too.
LARGER = (
    (((2, 4), (3, 3), (3, 3), (4, 7), (4, 4), (1, 1)), ((5, 2), (5, 3)), (1, 0, 5, 2, 3, 4), 2),
    (
        ((3, 3), (3, 5), (3, 3), (3, 3), (4, 5), (3, 3), (1, 1)), ((1, 2), (1, 3), (0, 4), (0, 5)),
        (2, 1, 5, 3, 0, 6, 4), 3,
    ),
    (
        ((1, 1), (2, 4), (2, 2), (3, 3), (1, 1), (2, 3)), ((1, 0), (0, 2), (1, 2), (3, 2), (0, 4), (1, 4), (3, 4)),
        (3, 1, 0, 4, 2, 5), 2,
    ),
)


def steps_of(plan):
    """Return all beginnings of a plan with a group behind it, and the states ahead of the group and behind it."""
    found = []
    waiting = [((), first_state(plan))]
    while waiting:
        beginning, ahead = waiting.pop()
        for group in groups_of(ahead[0]):
            behind = next_state(plan, ahead, group)
            found.append((beginning, group, ahead, behind))
            waiting.append(((*beginning, group), behind))
    return found


def parts_anyhow(plan, beginning, group):
    """Return whether other tasks run behind a group that ends in two parts, whichever, than behind all of it."""
    told = reference.running_behind(plan, (*beginning, group))
    for first in groups_of(group):
        second = tuple(number for number in group if number not in first)
        if second and reference.running_behind(plan, (*beginning, first, second)) != told:
            return True
    return False


def end_of(plan, durations):
    return Fraction(*whole_end(plan, tuple(map(reference.pair_of, durations))))


def jumps_on_a_grid(plan):
    """Return whether the end jumps at any quarters, if all bounds are integers and just two tasks can move.

    The courses change across lines on which one of the two, their sum or their
    difference is an integer: quarters stand within each part of such a line, and
    of what is between these lines, and there the end jumps by a quarter or more.
    """
    bounds = [(Fraction(*low), Fraction(*high)) for _, low, high in plan.tasks]
    choices = [[low + Fraction(part, 4) for part in range(int(4 * (high - low)) + 1)] for low, high in bounds]
    for value in itertools.product(*choices):
        for number, (low, high) in enumerate(bounds):
            for step in (Fraction(-1, 1000), Fraction(1, 1000)):
                if low <= value[number] + step <= high:
                    moved = replaced(value, number, value[number] + step)
                    if (end_of(plan, moved) - end_of(plan, value)) * step < 0:
                        return True
    return False


def many_settled(call, plan):
    """Return how many tables are settled by a call for a plan."""
    settle = Table.settle
    with mock.patch.object(Table, "settle", autospec=True, side_effect=settle) as counted:
        call(plan)
    return counted.call_count


class PartTest(unittest.TestCase):
    def test_no_group_at_which_others_run_is_passed_over(self):
        outcomes = {True: 0, False: 0}
        plans = [P, Q, NEAR, WIDE, LOOSE, *some_plans(131, 120), *jumpy_plans(132, 10), *parting_plans(133, 80)]
        for plan in plans + [plan.with_workers(3) for plan in plans[-15:]]:
            for beginning, group, ahead, behind in steps_of(plan):
                told = parts_anyhow(plan, beginning, group)
                outcomes[told] += 1
                if told:
                    self.assertTrue(can_part(plan, group, ahead, behind))
                    self.assertTrue(can_part_yet(plan, ahead))
        self.assertGreater(min(outcomes.values()), 20)

    def test_groups(self):
        # Behind tasks 0 and 1 the tasks 2 and 3 begin; behind 1 alone task 4 does.
        ahead = first_state(P)
        self.assertTrue(can_part_yet(P, ahead))
        self.assertTrue(can_part(P, (0, 1), ahead, next_state(P, ahead, (0, 1))))
        for group in ((0,), (1,)):
            behind = next_state(P, ahead, group)
            self.assertFalse(can_part(P, group, ahead, behind))
            self.assertFalse(can_part_yet(P, behind))

    def test_branches(self):
        first = first_branch(P)
        self.assertTrue(can_jump(first))
        self.assertTrue(can_jump(first.grown((0, 1))))
        self.assertTrue(can_jump(first.grown((0, 1)).grown((2, 3)).grown((4,))))
        self.assertFalse(can_jump(first.grown((0,))))
        self.assertFalse(can_jump(first_branch(WIDE)))


class JumpCase(unittest.TestCase):
    def assert_jump(self, plan, found):
        durations, number, bound = found
        self.assertIsNone(durations_error(plan, durations))
        self.assertIn(bound, plan[number][1:])
        self.assertNotEqual(bound, durations[number])
        self.assertTrue(any(len(group) > 1 for group in course_of(plan, durations)))
        (top, bottom), (other_top, other_bottom) = durations[number], bound
        for part in (10 ** 90, 10 ** 90 + 7, 10 ** 120):
            # So little on the way from the duration to the bound.
            moved = fraction(
                top * other_bottom * (part - 1) + other_top * bottom, bottom * other_bottom * part
            )
            self.assertTrue(less_holds(plan, triple_of(durations, number, moved)))


class FirstJumpTest(JumpCase):
    def test_every_step_that_is_short_enough(self):
        signs = set()
        for plan in (P, NEAR, *jumpy_plans(134, 60), *parting_plans(135, 100)):
            found = first_jump(plan)
            if found is not None:
                self.assert_jump(plan, found)
                signs.add(is_below(found[2], found[0][found[1]]))
        self.assertEqual(signs, {True, False})

    def test_bounds_that_leave_hardly_any_room(self):
        large = 10 ** 39
        for low, high in (((2, 1), (2 * large + 1, large)), ((1, large), (large, 1)), ((1, 1), (large, 1))):
            plan = P.with_task(0, ((), low, high))
            self.assert_jump(plan, first_jump(plan))
            self.assertTrue(less_holds(plan, shorter_later(plan)))
        plan = NEAR.with_task(0, ((), (2 * large - 1, large), (2, 1)))
        self.assert_jump(plan, first_jump(plan))
        self.assertTrue(less_holds(plan, shorter_later(plan)))

    def test_no_room_at_the_tie(self):
        for low, high in (((2, 1), (2, 1)), ((1, 1), (2, 1)), ((1, 1), (2 * 10 ** 39 - 1, 10 ** 39))):
            self.assertIsNone(first_jump(P.with_task(0, ((), low, high))))
        self.assertIsNone(first_jump(NEAR.with_task(0, ((), (2, 1), (3, 1)))))

    def test_plans_with_too_many_courses(self):
        self.assertIsNone(first_jump(LOOSE))

    def test_no_task_can_move(self):
        for plan in (P, NEAR, *parting_plans(136, 20)):
            bounds = [(low, low) for _, low, _ in plan.tasks]
            self.assertIsNone(first_jump(plan_of(bounds, plan.pairs(), plan.order)))


class LargerTest(JumpCase):
    def setUp(self):
        patched = mock.patch("lesslater.plans.MAX_TASKS", 7)
        patched.start()
        self.addCleanup(patched.stop)

    def test_plans_of_more_tasks(self):
        for row in LARGER:
            plan = plan_of(*row)
            self.assertTrue(jumps_on_a_grid(plan))
            self.assert_jump(plan, first_jump(plan))

    def test_tasks_that_take_more_or_less(self):
        outcomes = {True: 0, False: 0}
        for bounds, *rest in LARGER:
            for number, (low, high) in enumerate(bounds):
                for more in (-1, 1):
                    if low + more > 0:
                        plan = plan_of(replaced(bounds, number, (low + more, high + more)), *rest)
                        told = jumps_on_a_grid(plan)
                        outcomes[told] += 1
                        self.assertIs(first_jump(plan) is not None, told)
        self.assertGreater(min(outcomes.values()), 5)


class WorkTest(unittest.TestCase):
    def test_hardly_more_than_for_the_courses(self):
        plans = [WIDE, SIXTY, renumbered(WIDE, (3, 1, 4, 0, 2)), *some_plans(137, 40), *parting_plans(138, 60)]
        for plan in plans:
            try:
                told = many_settled(courses, plan)
            except TooMany:
                continue
            with self.subTest(tasks=plan.tasks, order=plan.order, workers=plan.workers):
                self.assertLessEqual(many_settled(is_steady, plan), 4 * told)
                self.assertLessEqual(many_settled(shorter_later, plan), 4 * told)
        self.assertLessEqual(many_settled(is_steady, WIDE), many_settled(courses, WIDE))


if __name__ == "__main__":
    unittest.main()
