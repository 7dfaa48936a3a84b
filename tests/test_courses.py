"""Promises [8] and [9], [2] (a), and what [3] says of them."""

import itertools
import unittest
from fractions import Fraction

from lesslater.courses import (
    chains, check_courses, conditions, courses, is_beginning, most_courses, next_groups, point, running,
)
from lesslater.errors import TooMany
from lesslater.runs import course_of, durations_error, moments, times
from tests import reference
from tests.samples import (
    LOOSE, LOOSE_8, P, Q, SIXTY, SIXTY_ONE, T, WIDE, WIDE_ONE, grid, no_integers, plan_of, some_durations, some_plans,
)

OF_BEGINNINGS = (running, next_groups, chains, conditions, point)


def subsets(numbers):
    """Return all non-empty ascending tuples of some numbers, ascending."""
    numbers = sorted(numbers)
    return sorted(group for many in range(1, len(numbers) + 1) for group in itertools.combinations(numbers, many))


def beginnings(plan, most=None):
    """Return beginnings of a plan, by the reference; all of them if most is None."""
    found = [()]
    for beginning in found:
        if most is not None and len(found) > most:
            break
        for group in subsets(reference.running_behind(plan, beginning)):
            found.append(beginning + (group,))
    return found


def whole_ones(plan):
    return [beginning for beginning in beginnings(plan) if not reference.running_behind(plan, beginning)]


def starts_with(course, beginning):
    return course[:len(beginning)] == beginning


class ExampleTest(unittest.TestCase):
    def test_examples_of_section_4(self):
        self.assertEqual(courses(P), (
            ((0,), (1,), (2,), (3,), (4,)), ((0, 1), (2, 3), (4,)), ((1,), (0,), (2,), (3,), (4,)),
            ((1,), (0,), (2,), (3, 4)),
        ))
        self.assertEqual(next_groups(P, ((1,),)), ((0,), (0, 4), (4,)))
        self.assertEqual(chains(P, ((1,),)), ((0,), (1,), (), (), (1, 4)))
        self.assertEqual(conditions(P, ((1,),))[-1], ((1, -1, 0, 0, 0), (0, 1), ">"))


class IsBeginningTest(unittest.TestCase):
    def assert_beginning(self, told, plan, value):
        self.assertIs(is_beginning(plan, value), told)
        self.assertIs(is_beginning(plan=plan, value=value), told)

    def test_beginnings(self):
        for value in (
            (), ((0,),), ((1,),), ((0, 1),), ((0, 1), (2, 3)), ((0, 1), (3,), (2, 4)), ((1,), (0, 4)),
            ((0, 1), (2, 3), (4,)), ((1,), (4,), (0,), (2,), (3,)), ((0,), (1,), (2,), (3,), (4,)),
        ):
            with self.subTest(value):
                self.assert_beginning(True, P, value)

    def test_empty_groups(self):
        for value in (((),), ((0,), ()), ((), (0,)), ((0, 1), (2, 3), (4,), ())):
            with self.subTest(value):
                self.assert_beginning(False, P, value)

    def test_groups_that_are_not_ascending(self):
        for value in (((1, 0),), ((0, 0),), ((0, 1, 1),), ((0, 1), (3, 2)), ((0, 1), (2, 2))):
            with self.subTest(value):
                self.assert_beginning(False, P, value)

    def test_tasks_that_are_not_running_then(self):
        for value in (
            ((2,),), ((0, 2),), ((0,), (0,)), ((0,), (3,)), ((0,), (0, 1)), ((1,), (2,)), ((0, 1), (0,)),
            ((0, 1), (4,)), ((5,),), ((-1,),), ((0, 5),), ((-1, 0),), ((0, 1, 2),),
        ):
            with self.subTest(value):
                self.assert_beginning(False, P, value)

    def test_a_group_too_many(self):
        whole = ((0, 1), (2, 3), (4,))
        for group in ((0,), (4,), (), (0, 1), (5,), None):
            with self.subTest(group):
                self.assert_beginning(False, P, whole + (group,))

    def test_lists_in_the_place_of_tuples(self):
        for value in ([], [(0,)], ([0],), ((0,), [1]), [[0]], ((0, 1), [2, 3])):
            with self.subTest(value):
                self.assert_beginning(False, P, value)

    def test_bools_in_the_place_of_integers(self):
        for value in (((True,),), ((False,),), ((0, True),), ((False, 1),), ((False, True),), ((0,), (True,))):
            with self.subTest(value):
                self.assert_beginning(False, P, value)

    def test_other_kinds(self):
        for value in no_integers():
            if value not in ((), (1,), (1, 2)):
                with self.subTest(value):
                    self.assert_beginning(False, P, value)
                    for beginning in ((), ((0,),), ((0, 1), (2, 3))):
                        self.assert_beginning(False, P, beginning + (value,))
                        self.assert_beginning(False, P, beginning + ((value,),))
                        self.assert_beginning(False, P, beginning + ((0, value),))
                        self.assert_beginning(False, P, (value,) + beginning)
        for number in (0, 1, -1, 10 ** 40):
            self.assert_beginning(False, P, number)
            self.assert_beginning(False, P, (number,))

    def test_possible_or_not(self):
        plan = plan_of([(1, 1), (5, 5)])
        self.assert_beginning(True, plan, ((1,), (0,)))
        self.assert_beginning(True, plan, ((0, 1),))

    def test_all_groups_of_three_tasks(self):
        groups = [()] + subsets(range(3)) + [(1, 0), (2, 2)]
        for plan in some_plans(21, 25, most=3):
            for many in range(4):
                for value in itertools.product(groups, repeat=many):
                    is_right = all(number < len(plan) for group in value for number in group)
                    told = is_right and reference.running_behind(plan, value) is not None
                    self.assert_beginning(told, plan, value)


class RunningTest(unittest.TestCase):
    def test_behind_nothing(self):
        self.assertEqual(running(P, ()), (0, 1))
        self.assertEqual(next_groups(P, ()), ((0,), (0, 1), (1,)))
        self.assertEqual(running(P.with_order((4, 0, 1, 2, 3)), ()), (0, 4))
        self.assertEqual(running(P.with_workers(1), ()), (0,))
        self.assertEqual(next_groups(P.with_workers(1), ()), ((0,),))
        self.assertEqual(
            next_groups(P.with_workers(3), ()),
            ((0,), (0, 1), (0, 1, 4), (0, 4), (1,), (1, 4), (4,)),
        )

    def test_behind_some_groups(self):
        self.assertEqual(running(P, ((0,),)), (1, 2))
        self.assertEqual(running(P, ((1,), (4,))), (0,))
        self.assertEqual(next_groups(P, ((1,), (4,))), ((0,),))
        self.assertEqual(running(P, ((1,), (0,))), (2, 4))
        self.assertEqual(running(Q, ((1,), (0,))), (2, 4))
        self.assertEqual(running(Q, ((0, 1),)), (2, 4))
        self.assertEqual(running(P, ((0, 1),)), (2, 3))

    def test_behind_a_whole_beginning(self):
        for plan in (P, Q):
            for course in courses(plan):
                self.assertEqual((running(plan, course), next_groups(plan, course)), ((), ()))

    def test_beginnings_of_all_shapes(self):
        for plan in some_plans(22, 60):
            for beginning in beginnings(plan, 60):
                told = reference.running_behind(plan, beginning)
                self.assertEqual(running(plan, beginning), tuple(sorted(told)))
                self.assertEqual(next_groups(plan, beginning), tuple(subsets(told)))

    def test_runs(self):
        for plan in some_plans(23, 40):
            for value in some_durations(plan, 1, 5):
                course, busy = course_of(plan, value), set()
                for many, (_, ended, begun) in enumerate(moments(plan, value)):
                    busy = busy - set(ended) | set(begun)
                    self.assertIs(is_beginning(plan, course[:many]), True)
                    self.assertEqual(running(plan, course[:many]), tuple(sorted(busy)))
                    self.assertIn(course[many:many + 1], [()] + [(one,) for one in next_groups(plan, course[:many])])


class ChainsTest(unittest.TestCase):
    def test_tasks_that_were_not_begun(self):
        self.assertEqual(chains(P, ()), ((0,), (1,), (), (), ()))
        self.assertEqual(chains(P, ((0,),)), ((0,), (1,), (0, 2), (), ()))
        self.assertEqual(chains(P.with_workers(3), ()), ((0,), (1,), (), (), (4,)))

    def test_the_least_task_of_the_group(self):
        self.assertEqual(chains(P, ((0, 1),)), ((0,), (1,), (0, 2), (0, 3), ()))
        self.assertEqual(chains(P, ((0, 1), (2, 3))), ((0,), (1,), (0, 2), (0, 3), (0, 2, 4)))
        self.assertEqual(chains(P, ((0, 1), (3,))), ((0,), (1,), (0, 2), (0, 3), (0, 3, 4)))

    def test_it_need_not_be_a_forerunner(self):
        self.assertEqual(chains(P, ((1,), (0, 4))), ((0,), (1,), (0, 2), (0, 3), (1, 4)))
        plan = plan_of([(1, 1)] * 4, [(2, 3)], order=(2, 1, 0, 3), workers=3)
        self.assertEqual(chains(plan, ((0, 1, 2),)), ((0,), (1,), (2,), (0, 3)))

    def test_a_chain_of_all(self):
        plan = plan_of([(1, 1)] * 5, order=(4, 2, 0, 1, 3), workers=1)
        whole = ((4,), (2,), (0,), (1,), (3,))
        self.assertEqual(chains(plan, whole), ((4, 2, 0), (4, 2, 0, 1), (4, 2), (4, 2, 0, 1, 3), (4,)))

    def test_its_sum_is_the_end(self):
        for plan in some_plans(24, 60):
            for value in some_durations(plan, 2, 6):
                lengths = [Fraction(*pair) for pair in value]
                course = course_of(plan, value)
                ends = [Fraction(*end) for _, end in times(plan, value)]
                for many in range(len(course) + 1):
                    for number, chain in enumerate(chains(plan, course[:many])):
                        if chain:
                            self.assertEqual(chain[-1], number)
                            self.assertEqual(sum(lengths[part] for part in chain), ends[number])
                self.assertNotIn((), chains(plan, course))


class ConditionsTest(unittest.TestCase):
    BOUNDS_OF_P = (
        ((1, 0, 0, 0, 0), (-1, 1), ">="), ((-1, 0, 0, 0, 0), (3, 1), ">="),
        ((0, 1, 0, 0, 0), (-2, 1), ">="), ((0, -1, 0, 0, 0), (2, 1), ">="),
        ((0, 0, 1, 0, 0), (-2, 1), ">="), ((0, 0, -1, 0, 0), (2, 1), ">="),
        ((0, 0, 0, 1, 0), (-2, 1), ">="), ((0, 0, 0, -1, 0), (2, 1), ">="),
        ((0, 0, 0, 0, 1), (-5, 1), ">="), ((0, 0, 0, 0, -1), (5, 1), ">="),
    )

    def assert_behind_bounds(self, plan, beginning, told):
        found = conditions(plan, beginning)
        self.assertEqual(found[2 * len(plan):], tuple((factors, (0, 1), kind) for factors, kind in told))
        self.assertEqual(found[:2 * len(plan)], conditions(plan, ()))

    def test_bounds(self):
        self.assertEqual(conditions(P, ()), self.BOUNDS_OF_P)
        self.assertEqual(
            conditions(plan_of([((1, 2), (2, 3)), (4, 4)]), ()),
            (
                ((1, 0), (-1, 2), ">="), ((-1, 0), (2, 3), ">="), ((0, 1), (-4, 1), ">="), ((0, -1), (4, 1), ">="),
            ),
        )

    def test_one_task_beside_which_another_runs_on(self):
        self.assert_behind_bounds(P, ((1,),), [((1, -1, 0, 0, 0), ">")])
        self.assert_behind_bounds(P, ((0,),), [((-1, 1, 0, 0, 0), ">")])

    def test_groups_of_several_tasks(self):
        self.assert_behind_bounds(P, ((0, 1),), [((-1, 1, 0, 0, 0), "=")])
        self.assert_behind_bounds(P, ((0, 1), (2, 3)), [((-1, 1, 0, 0, 0), "="), ((0, 0, -1, 1, 0), "=")])
        three = plan_of([(1, 2)] * 3, order=(2, 1, 0), workers=3)
        self.assert_behind_bounds(three, ((0, 1, 2),), [((-1, 1, 0), "="), ((-1, 0, 1), "=")])

    def test_equal_ones_stand_ahead_of_those_that_run_on(self):
        three = plan_of([(1, 2)] * 3, order=(2, 1, 0), workers=3)
        self.assert_behind_bounds(three, ((1,),), [((1, -1, 0), ">"), ((0, -1, 1), ">")])
        self.assert_behind_bounds(three, ((0, 2),), [((-1, 0, 1), "="), ((-1, 1, 0), ">")])
        self.assert_behind_bounds(three, ((1, 2),), [((0, -1, 1), "="), ((1, -1, 0), ">")])

    def test_chains_of_several_tasks(self):
        self.assert_behind_bounds(P, ((1,), (0,)), [((1, -1, 0, 0, 0), ">"), ((-1, 1, 0, 0, 1), ">")])
        self.assert_behind_bounds(P, ((1,), (0, 4)), [((1, -1, 0, 0, 0), ">"), ((-1, 1, 0, 0, 1), "=")])

    def test_tasks_of_both_chains_are_left_out(self):
        plan = plan_of([(1, 2)] * 3, [(0, 1), (0, 2)])
        self.assert_behind_bounds(plan, ((0,), (2,)), [((0, 1, -1), ">")])

    def test_whole_beginnings(self):
        self.assert_behind_bounds(P, ((1,), (0,), (2,), (3, 4)), [
            ((1, -1, 0, 0, 0), ">"), ((-1, 1, 0, 0, 1), ">"), ((-1, 1, -1, 0, 1), ">"), ((-1, 1, -1, -1, 1), "="),
        ])
        self.assert_behind_bounds(P, ((1,), (0,), (2,), (3,), (4,)), [
            ((1, -1, 0, 0, 0), ">"), ((-1, 1, 0, 0, 1), ">"), ((-1, 1, -1, 0, 1), ">"), ((-1, 1, -1, -1, 1), ">"),
        ])
        self.assert_behind_bounds(P, ((0, 1), (2, 3), (4,)), [((-1, 1, 0, 0, 0), "="), ((0, 0, -1, 1, 0), "=")])

    def test_one_worker_has_bounds_alone(self):
        plan = P.with_workers(1)
        self.assertEqual(conditions(plan, ((0,), (1,), (2,), (3,), (4,))), self.BOUNDS_OF_P)

    def test_durations_meet_them_exactly_if_their_course_begins_so(self):
        for plan in some_plans(25, 30, most=4):
            values = some_durations(plan, 3, 12)
            runs = [(value, course_of(plan, value)) for value in values]
            for beginning in beginnings(plan, 80):
                rows = conditions(plan, beginning)
                for value, course in runs:
                    self.assertIs(reference.are_met(rows, value), starts_with(course, beginning))


class PointTest(unittest.TestCase):
    def assert_point(self, plan, beginning):
        found = point(plan, beginning)
        self.assertIsNotNone(found)
        self.assertIsNone(durations_error(plan, found))
        self.assertTrue(starts_with(course_of(plan, found), beginning))

    def test_bounds_alone(self):
        for plan in (P, Q, LOOSE, SIXTY_ONE, *some_plans(26, 40)):
            self.assert_point(plan, ())

    def test_no_durations_have_such_a_course(self):
        plan = plan_of([(1, 2), (3, 4)])
        self.assert_point(plan, ((0,),))
        self.assertIsNone(point(plan, ((1,),)))
        self.assertIsNone(point(plan, ((0, 1),)))
        self.assertIsNone(point(P, ((1,), (4,))))

    def test_just_at_a_bound(self):
        plan = plan_of([(1, 2), (2, 3)])
        self.assertEqual(point(plan, ((0, 1),)), ((2, 1), (2, 1)))

    def test_only_above_excludes_it(self):
        self.assertIsNone(point(plan_of([(1, 2), (2, 3)]), ((1,),)))
        self.assertIsNone(point(plan_of([(2, 2), (2, 2)]), ((0,),)))
        self.assertIsNone(point(plan_of([(2, 2), (2, 2)]), ((1,),)))
        self.assert_point(plan_of([(2, 2), (2, 2)]), ((0, 1),))

    def test_only_the_sum_of_several_excludes_it(self):
        # Together tasks 0 and 2 take 4 at the most, and so does task 1 at the least.
        plan = plan_of([(1, 2), (4, 5), (1, 2)])
        self.assertIsNone(point(plan, ((0,), (1,))))
        self.assertEqual(point(plan, ((0,), (1, 2))), ((2, 1), (4, 1), (2, 1)))
        self.assert_point(plan, ((0,), (2,)))

    def test_hardly_possible(self):
        large = 10 ** 39
        plan = plan_of([((1, 1), (large + 1, large)), ((large + 2, large + 1), (2, 1))])
        self.assert_point(plan, ((1,), (0,)))
        self.assert_point(plan, ((0, 1),))
        plan = plan_of([((1, 1), (large + 1, large)), ((large + 1, large), (2, 1))])
        self.assertIsNone(point(plan, ((1,),)))
        self.assert_point(plan, ((0, 1),))

    def test_large_bounds_of_many_bottoms(self):
        bounds = [((10 ** 39, 10 ** 39 - number), (10 ** 39, 10 ** 38 + number)) for number in (1, 3, 7, 9, 11)]
        self.assert_point(plan_of(bounds, workers=3), ((0, 2), (1,), (3,), (4,)))

    def test_against_elimination(self):
        outcomes = {True: 0, False: 0}
        for plan in some_plans(27, 60):
            for beginning in beginnings(plan, 40):
                can_be = reference.can_be_met(conditions(plan, beginning), len(plan))
                outcomes[can_be] += 1
                with self.subTest(tasks=plan.tasks, order=plan.order, workers=plan.workers, beginning=beginning):
                    if can_be:
                        self.assert_point(plan, beginning)
                    else:
                        self.assertIsNone(point(plan, beginning))
        self.assertGreater(min(outcomes.values()), 200)


class CoursesTest(unittest.TestCase):
    def test_one_task(self):
        self.assertEqual(courses(plan_of([(1, 5)])), (((0,),),))

    def test_one_worker(self):
        self.assertEqual(courses(P.with_workers(1)), (((0,), (1,), (2,), (3,), (4,)),))

    def test_two_tasks(self):
        self.assertEqual(courses(plan_of([(1, 3), (2, 2)])), (((0,), (1,)), ((0, 1),), ((1,), (0,))))
        self.assertEqual(courses(plan_of([(1, 2), (2, 2)])), (((0,), (1,)), ((0, 1),)))
        self.assertEqual(courses(plan_of([(2, 3), (2, 2)])), (((0, 1),), ((1,), (0,))))
        self.assertEqual(courses(plan_of([(2, 2), (2, 2)])), (((0, 1),),))
        self.assertEqual(courses(plan_of([(1, 1), (2, 2)])), (((0,), (1,)),))

    def test_all_possible_whole_beginnings_are_there(self):
        for plan in some_plans(28, 40, most=4):
            told = [
                whole for whole in whole_ones(plan) if reference.can_be_met(conditions(plan, whole), len(plan))
            ]
            self.assertEqual(courses(plan), tuple(sorted(told)))

    def test_each_is_the_course_of_its_point(self):
        for plan in (P, Q, SIXTY, *some_plans(29, 25)):
            found = courses(plan)
            self.assertEqual(found, tuple(sorted(set(found))))
            for course in found:
                self.assertIsNone(durations_error(plan, point(plan, course)))
                self.assertEqual(course_of(plan, point(plan, course)), course)

    def test_the_course_of_any_durations_is_among_them(self):
        for plan in (P, Q, SIXTY, *some_plans(30, 40)):
            try:
                found = courses(plan)
            except TooMany:
                continue
            for value in some_durations(plan, 5, 40):
                self.assertIn(course_of(plan, value), found)
        self.assertEqual({course_of(P, value) for value in grid(P, 12)}, set(courses(P)))

    def test_sixty_and_one_more(self):
        self.assertEqual(len(courses(SIXTY)), 60)
        for plan in (SIXTY_ONE, LOOSE):
            for call in (lambda: courses(plan), lambda: courses(plan=plan)):
                with self.assertRaises(TooMany) as caught:
                    call()
                self.assertEqual(caught.exception.limit, 60)

    def test_there_are_sixty_and_one_more(self):
        for plan, told in ((SIXTY, 60), (SIXTY_ONE, 61)):
            found, level = 0, [()]
            while level:
                beginning = level.pop()
                if reference.can_be_met(conditions(plan, beginning), len(plan)):
                    groups = subsets(reference.running_behind(plan, beginning))
                    found += not groups
                    level.extend(beginning + (group,) for group in groups)
            self.assertEqual(found, told)

    def test_no_plan_has_more_than_its_tasks_and_workers_allow(self):
        for workers, told in ((1, [1, 1, 1, 1, 1]), (2, [1, 3, 7, 17, 41]), (3, [1, 3, 13, 49, 189])):
            self.assertEqual([most_courses(many, workers) for many in (1, 2, 3, 4, 5)], told)
        for plan in (P, Q, WIDE, *some_plans(31, 60)):
            self.assertLessEqual(len(whole_ones(plan)), most_courses(len(plan), plan.workers))
        # Without forerunners just as many are told: no worker is ever idle while tasks wait.
        for workers in (1, 2, 3):
            for many in (1, 2, 3, 4, 5):
                plan = plan_of([(1, 9)] * many, workers=workers)
                self.assertEqual(len(whole_ones(plan)), most_courses(many, workers))

    def test_too_many_are_told_without_the_courses_too(self):
        outcomes = {True: 0, False: 0}
        for plan in (P, SIXTY, SIXTY_ONE, WIDE, WIDE_ONE, LOOSE, LOOSE_8, *some_plans(32, 80)):
            told = None
            try:
                courses(plan)
            except TooMany as error:
                told = error.limit
            outcomes[told is None] += 1
            if told is None:
                self.assertIsNone(check_courses(plan))
            else:
                with self.assertRaises(TooMany) as caught:
                    check_courses(plan)
                self.assertEqual(caught.exception.limit, told)
        self.assertGreater(min(outcomes.values()), 3)

    def test_others_do_not_look_at_how_many_there_are(self):
        whole = ((0, 1), (2,), (3,), (4,))
        for call in OF_BEGINNINGS:
            call(LOOSE, whole)
        self.assertIs(is_beginning(LOOSE, whole), True)


class ConventionsTest(unittest.TestCase):
    def test_arguments_by_name(self):
        for call in OF_BEGINNINGS:
            self.assertEqual(call(plan=P, beginning=((1,),)), call(P, ((1,),)))
            self.assertEqual(call(beginning=((1,),), plan=P), call(P, ((1,),)))
        self.assertEqual(courses(plan=P), courses(P))

    def test_equal_calls_return_equal_results(self):
        other = P.with_order(P.order)
        for course in courses(P):
            for many in range(len(course) + 1):
                for call in OF_BEGINNINGS:
                    self.assertEqual(call(P, course[:many]), call(other, tuple(course[:many])))
        self.assertEqual(courses(P), courses(other))

    def test_results_are_tuples_at_every_depth(self):
        self.assert_tuples(courses(P))
        for beginning in ((), ((0, 1),), *courses(P)):
            for call in OF_BEGINNINGS:
                self.assert_tuples(call(P, beginning))

    def assert_tuples(self, value):
        self.assertIn(type(value), (tuple, int, str))
        if type(value) is tuple:
            for item in value:
                self.assert_tuples(item)

    def test_arguments_are_not_changed(self):
        value = [[0], {"a": [1]}]
        is_beginning(P, value)
        is_beginning(P, (value,))
        self.assertEqual(value, [[0], {"a": [1]}])
        self.assertEqual((P.tasks, P.order, P.workers), (T, (0, 1, 2, 3, 4), 2))


if __name__ == "__main__":
    unittest.main()
