"""Promise [15], and what [3] says of it."""

import random
import unittest

from lesslater.benches import Bench
from lesslater.courses import conditions, courses, next_groups, point, running
from lesslater.errors import NoBack, NoGroup
from lesslater.plans import Plan
from lesslater.runs import course_of
from lesslater.walkers import Walker
from tests import reference
from tests.samples import (
    LOOSE, NEAR, P, Q, SIXTY_ONE, any_values, is_of_tuples, jumpy_plans, no_integers, plan_of, some_durations,
    some_plans,
)


def led(plan, beginning):
    """Return a walker at a beginning."""
    walker = Walker(plan)
    for group in beginning:
        walker(group)
    return walker


def standing(walker):
    return (walker.plan, walker.beginning, walker.groups, len(walker))


class WalkTest(unittest.TestCase):
    def assert_stands(self, walker, plan, beginning):
        self.assertEqual(walker.plan, plan)
        self.assertEqual(walker.beginning, beginning)
        self.assertEqual(len(walker), len(beginning))
        told = [group for group in next_groups(plan, beginning) if point(plan, (*beginning, group)) is not None]
        self.assertEqual(walker.groups, tuple(told))
        self.assertTrue(is_of_tuples((walker.beginning, walker.groups)))

    def test_at_first(self):
        self.assert_stands(Walker(P), P, ())
        self.assertEqual(Walker(P).groups, ((0,), (0, 1), (1,)))
        self.assertIs(Walker(P).plan.__class__, Plan)

    def test_a_walk(self):
        walker = Walker(P)
        self.assertEqual(walker((0, 1)), (2, 3))
        self.assertEqual(standing(walker), (P, ((0, 1),), ((2, 3),), 1))
        self.assertEqual(walker((2, 3)), (4,))
        self.assertEqual(standing(walker), (P, ((0, 1), (2, 3)), ((4,),), 2))
        self.assertEqual(walker((4,)), ())
        self.assertEqual(standing(walker), (P, ((0, 1), (2, 3), (4,)), (), 3))

    def test_along_the_courses_of_durations(self):
        for plan in (P, Q, NEAR, LOOSE, *some_plans(91, 20), *jumpy_plans(92, 10)):
            for value in some_durations(plan, 12, 3):
                course, walker = course_of(plan, value), Walker(plan)
                for many, group in enumerate(course):
                    self.assert_stands(walker, plan, course[:many])
                    self.assertEqual(walker(group), running(plan, course[:many + 1]))
                self.assert_stands(walker, plan, course)
                self.assertEqual(walker.groups, ())

    def test_at_random_to_the_end(self):
        chance = random.Random(93)
        for plan in (P, NEAR, LOOSE, *some_plans(94, 30), *jumpy_plans(95, 15)):
            walker, beginning = Walker(plan), ()
            while walker.groups:
                group = chance.choice(walker.groups)
                beginning += (group,)
                self.assertEqual(walker(group), tuple(sorted(reference.running_behind(plan, beginning))))
                self.assert_stands(walker, plan, beginning)
            self.assertEqual(running(plan, beginning), ())
            self.assertIsNotNone(point(plan, beginning))

    def test_groups_are_those_that_are_possible(self):
        for plan in (P, NEAR, *some_plans(96, 10, most=4)):
            for course in courses(plan):
                for many in range(len(course)):
                    told = [
                        group for group in next_groups(plan, course[:many])
                        if reference.can_be_met(conditions(plan, (*course[:many], group)), len(plan))
                    ]
                    self.assertEqual(led(plan, course[:many]).groups, tuple(told))

    def test_all_courses_are_walked(self):
        for plan in (P, Q, NEAR):
            found, waiting = [], [Walker(plan)]
            while waiting:
                walker = waiting.pop()
                if not walker.groups:
                    found.append(walker.beginning)
                for group in walker.groups:
                    other = walker.twin()
                    other(group)
                    waiting.append(other)
            self.assertEqual(tuple(sorted(found)), courses(plan))

    def test_more_courses_than_there_may_be(self):
        for plan in (LOOSE, SIXTY_ONE):
            walker = Walker(plan)
            while walker.groups:
                walker(walker.groups[-1])
            self.assertEqual(running(plan, walker.beginning), ())


class NoGroupTest(unittest.TestCase):
    def assert_no_group(self, walker, group):
        old = standing(walker)
        for call in (lambda: walker(group), lambda: walker(group=group)):
            with self.assertRaises(NoGroup) as caught:
                call()
            self.assertIs(caught.exception.group, group)
            self.assertEqual(standing(walker), old)

    def test_groups_that_run_but_are_not_possible(self):
        walker = led(P, ((0, 1),))
        self.assertEqual(next_groups(P, walker.beginning), ((2,), (2, 3), (3,)))
        self.assert_no_group(walker, (2,))
        self.assert_no_group(walker, (3,))
        for group in ((4,), (0, 4)):
            self.assert_no_group(led(P, ((1,),)), group)

    def test_tasks_that_do_not_run(self):
        for group in ((2,), (3, 4), (0, 2), (0, 1, 2), (5,), (-1,), (10 ** 40,)):
            self.assert_no_group(Walker(P), group)
        for group in ((0,), (1,), (0, 1), (4,)):
            self.assert_no_group(led(P, ((0, 1),)), group)

    def test_at_a_whole_beginning(self):
        for course in courses(P):
            for group in ((), (0,), (4,), (3, 4), None):
                self.assert_no_group(led(P, course), group)

    def test_turned_round_empty_and_twice(self):
        for group in ((1, 0), (), (0, 0), (0, 1, 1), ((0,),), ((0, 1),)):
            self.assert_no_group(Walker(P), group)

    def test_lists_and_bools(self):
        for group in ([0], [0, 1], (True,), (False,), (0, True), (False, 1), (False, True), [True], ("0",), "0", "01"):
            self.assert_no_group(Walker(P), group)

    def test_other_kinds(self):
        for value in (*no_integers(), 0, 5, -1, Walker(P), (Walker(P),)):
            if value != (1,):
                self.assert_no_group(Walker(P), value)
        for value in any_values():
            self.assert_no_group(Walker(P), (value, value))
            self.assert_no_group(led(P, ((0, 1),)), (value,))


class BackTest(unittest.TestCase):
    WHOLE = ((1,), (0,), (2,), (3,), (4,))

    def assert_no_back(self, walker, many):
        old = standing(walker)
        for call in (lambda: walker.back(many), lambda: walker.back(many=many)):
            with self.assertRaises(NoBack) as caught:
                call()
            self.assertIs(caught.exception.many, many)
            self.assertEqual(standing(walker), old)

    def test_one_by_one(self):
        walker = led(P, self.WHOLE)
        for left in (4, 3, 2, 1, 0):
            self.assertEqual(walker.back(), self.WHOLE[:left])
            self.assertEqual(standing(walker), standing(led(P, self.WHOLE[:left])))

    def test_several_at_once(self):
        for plan in (P, NEAR, *jumpy_plans(97, 5)):
            for course in courses(plan)[:6]:
                for stop in range(1, len(course) + 1):
                    for many in range(1, stop + 1):
                        walker = led(plan, course[:stop])
                        self.assertEqual(walker.back(many), course[:stop - many])
                        self.assertEqual(standing(walker), standing(led(plan, course[:stop - many])))

    def test_by_name_and_on_again(self):
        walker = led(P, self.WHOLE)
        self.assertEqual(walker.back(many=3), self.WHOLE[:2])
        self.assertEqual(walker((2,)), (3, 4))
        self.assertEqual(walker.back(3), ())
        self.assertEqual(walker((0, 1)), (2, 3))
        self.assertEqual(walker.beginning, ((0, 1),))

    def test_no_back(self):
        for stop in range(6):
            walker = led(P, self.WHOLE[:stop])
            for many in (0, -1, -2, stop + 1, stop + 2, 10 ** 40, True, False, None, "1", (1,), [1], {}, P):
                self.assert_no_back(walker, many)
        for many in no_integers():
            self.assert_no_back(led(P, self.WHOLE), many)

    def test_at_the_start(self):
        walker = Walker(P)
        with self.assertRaises(NoBack) as caught:
            walker.back()
        self.assertEqual(caught.exception.many, 1)
        self.assert_no_back(walker, 1)


class TwinTest(unittest.TestCase):
    def test_both_go_on_by_themselves(self):
        walker = led(P, ((1,),))
        twin = walker.twin()
        self.assertIsInstance(twin, Walker)
        self.assertEqual(standing(twin), standing(walker))
        twin((0,))
        self.assertEqual((walker.beginning, twin.beginning), (((1,),), ((1,), (0,))))
        walker.back()
        walker((0, 1))
        self.assertEqual((walker.beginning, twin.beginning), (((0, 1),), ((1,), (0,))))
        self.assertEqual(twin.groups, ((2,),))
        twin.back(2)
        self.assertEqual((walker.groups, twin.groups), (((2, 3),), ((0,), (0, 1), (1,))))

    def test_equal_ones(self):
        walker = led(P, ((1,),))
        for other in (walker, walker.twin(), led(P, ((1,),)), led(Plan(P.tasks, P.order, P.workers), ((1,),))):
            self.assertIs(walker == other, True)
            self.assertIs(walker != other, False)

    def test_others(self):
        walker = led(P, ((1,),))
        others = [
            Walker(P), led(P, ((0,),)), led(P, ((1,), (0,))), led(Q, ((1,),)), led(P.with_workers(3), ((1,),)),
            led(P.with_pair(0, 4), ((1,),)), P, Bench(P, (9, 1)), walker.beginning, [walker], (walker,), *any_values(),
        ]
        for other in others:
            self.assertIs(walker == other, False)
            self.assertIs(walker != other, True)
            self.assertIs(other == walker, False)
        self.assertIs(walker.twin() == led(P, ((1,), (0,))), False)


class ConventionsTest(unittest.TestCase):
    def test_properties_can_only_be_read(self):
        walker = led(P, ((1,),))
        for name in ("plan", "beginning", "groups"):
            old = getattr(walker, name)
            for value in (old, None, ()):
                with self.assertRaises(AttributeError):
                    setattr(walker, name, value)
            self.assertEqual(getattr(walker, name), old)

    def test_arguments_by_name(self):
        walker = Walker(plan=P)
        self.assertEqual(walker(group=(1,)), (0, 4))
        self.assertEqual(walker.back(many=1), ())

    def test_one_task(self):
        walker = Walker(plan_of([(1, 2)]))
        self.assertEqual(walker.groups, ((0,),))
        self.assertEqual((walker((0,)), walker.groups, len(walker)), ((), (), 1))

    def test_values_are_kept(self):
        group = [[0], {"a": 1}]
        with self.assertRaises(NoGroup):
            Walker(P)(group)
        self.assertEqual(group, [[0], {"a": 1}])


if __name__ == "__main__":
    unittest.main()
