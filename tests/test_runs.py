"""Promises [6] and [7], and what [3] says of them."""

import unittest
from fractions import Fraction

from lesslater.errors import BadDurations
from lesslater.runs import course_of, durations_error, moments, times, whole_end
from tests import reference
from tests.samples import FORTY, P, any_values, grid, plan_of, replaced, some_durations, some_plans

LONG = ((3, 1), (2, 1), (2, 1), (2, 1), (5, 1))
SHORT = ((1, 1), (2, 1), (2, 1), (2, 1), (5, 1))


def rows_of(plan, value):
    return list(moments(plan, value))


RAISING = (times, whole_end, course_of, rows_of)


class ExampleTest(unittest.TestCase):
    def test_examples_of_section_3(self):
        self.assertEqual((whole_end(P, LONG), whole_end(P, SHORT)), ((7, 1), (8, 1)))
        self.assertEqual(course_of(P, SHORT), ((0,), (1,), (2,), (3,), (4,)))
        self.assertEqual(
            rows_of(P, LONG)[:3],
            [((0, 1), (), (0, 1)), ((2, 1), (1,), (4,)), ((3, 1), (0,), (2,))],
        )


class DurationsErrorTest(unittest.TestCase):
    def assert_error(self, told, plan, value):
        found = durations_error(plan, value)
        self.assertEqual(found, told)
        self.assertIs(type(found), type(told))
        self.assertEqual(durations_error(plan=plan, value=value), told)
        for call in RAISING:
            if told is None:
                call(plan, value)
            else:
                with self.assertRaises(BadDurations) as caught:
                    call(plan, value)
                self.assertEqual(caught.exception.index, told)
                self.assertIs(type(caught.exception.index), int)

    def test_durations(self):
        for value in (LONG, SHORT, replaced(LONG, 0, (5, 2)), replaced(LONG, 0, (FORTY, FORTY - 1))):
            self.assert_error(None, P, value)
        for plan in some_plans(11, 20):
            for value in some_durations(plan, 1, 5):
                self.assert_error(None, plan, value)

    def test_both_bounds_are_within(self):
        plan = plan_of([((2, 3), (3, 4)), ((1, 3), (1, 3))])
        for item in ((2, 3), (3, 4), (5, 7)):
            self.assert_error(None, plan, (item, (1, 3)))

    def test_below_the_low_and_above_the_high(self):
        plan = plan_of([((2, 3), (3, 4)), ((1, 3), (1, 3))])
        for item in ((3, 5), (4, 5), (1, 2), (1, 1), (0, 1), (-2, 3), (FORTY, 1), (1, FORTY), (665, 998), (752, 1002)):
            with self.subTest(item):
                self.assert_error(0, plan, (item, (1, 3)))
        for item in ((1, 4), (1, 2), (333, 1000), (334, 1001), (-1, 3)):
            with self.subTest(item):
                self.assert_error(1, plan, ((2, 3), item))

    def test_items_that_are_no_fraction(self):
        plan = plan_of([(1, 3), (1, 3), (1, 3)])
        right = ((1, 1), (2, 1), (3, 1))
        wrong = (
            (2, 2), (4, 2), (6, 4), (2, 0), (-2, -1), [2, 1], (2,), (2, 1, 1), (True, 1), (2, True), ("2", 1),
            ((2, 1),), 2, "2", "2/1",
        )
        for item in (*wrong, *any_values()):
            for number in range(3):
                with self.subTest(item, number=number):
                    self.assert_error(number, plan, replaced(right, number, item))

    def test_first_wrong_item(self):
        self.assert_error(1, P, ((1, 1), None, (2, 1), None, (5, 1)))
        self.assert_error(0, P, (None,) * 5)
        self.assert_error(2, P, ((1, 1), (2, 1), (3, 1), (2, 2), "x"))

    def test_too_few_and_too_many(self):
        for value in (LONG[:4], LONG[:1], (), LONG + ((5, 1),), LONG + LONG, (None,) * 4, (None,) * 6):
            with self.subTest(value):
                self.assert_error(-1, P, value)

    def test_other_kinds(self):
        for value in (*any_values(), list(LONG), [list(item) for item in LONG], dict(enumerate(LONG)), "12345"):
            with self.subTest(value):
                self.assert_error(-1, P, value)

    def test_a_list_in_the_place_of_one_task(self):
        self.assert_error(-1, plan_of([(1, 3)]), [(1, 1)])
        self.assert_error(0, plan_of([(1, 3)]), ([1, 1],))
        self.assert_error(None, plan_of([(1, 3)]), ((1, 1),))


class MomentsTest(unittest.TestCase):
    def test_it_returns_an_iterator(self):
        found = moments(P, LONG)
        self.assertIs(iter(found), found)
        self.assertEqual(next(found), ((0, 1), (), (0, 1)))
        self.assertEqual(next(found), ((2, 1), (1,), (4,)))
        self.assertEqual(len(list(found)), 3)
        self.assertEqual(list(found), [])

    def test_it_raises_only_when_its_first_item_is_asked_for(self):
        for value in (None, LONG[:4], list(LONG), replaced(LONG, 3, (1, 1))):
            found = moments(P, value)
            with self.assertRaises(BadDurations) as caught:
                next(found)
            self.assertEqual(caught.exception.index, durations_error(P, value))

    def test_two_of_them_do_not_disturb_one_another(self):
        one, other = moments(P, LONG), moments(P, LONG)
        self.assertEqual(next(one), next(other))
        self.assertEqual(list(one), list(other))


class RunTest(unittest.TestCase):
    def assert_run(self, plan, value, rows):
        self.assertEqual(rows_of(plan, value), rows)
        self.assertEqual(whole_end(plan, value), rows[-1][0])
        self.assertEqual(course_of(plan, value), tuple(ended for _, ended, _ in rows[1:]))
        for number, pair in enumerate(times(plan, value)):
            begin = [moment for moment, _, begun in rows if number in begun]
            end = [moment for moment, ended, _ in rows if number in ended]
            self.assertEqual([pair], list(zip(begin, end)))

    def test_one_task(self):
        self.assert_run(plan_of([(1, 3)]), ((3, 2),), [((0, 1), (), (0,)), ((3, 2), (0,), ())])

    def test_one_worker_takes_in_the_order_of_the_list(self):
        plan = plan_of([(1, 9)] * 3, order=(2, 0, 1), workers=1)
        self.assert_run(plan, ((1, 1), (2, 1), (4, 1)), [
            ((0, 1), (), (2,)), ((4, 1), (2,), (0,)), ((5, 1), (0,), (1,)), ((7, 1), (1,), ()),
        ])

    def test_one_worker_passes_over_what_waits_for_forerunners(self):
        plan = plan_of([(1, 9)] * 3, [(2, 0)], workers=1)
        self.assert_run(plan, ((1, 1), (2, 1), (4, 1)), [
            ((0, 1), (), (1,)), ((2, 1), (1,), (2,)), ((6, 1), (2,), (0,)), ((7, 1), (0,), ()),
        ])

    def test_several_end_together_and_several_begin(self):
        plan = plan_of([(2, 2), (2, 2), (3, 3), (1, 1), (1, 1)], order=(1, 0, 4, 3, 2))
        self.assert_run(plan, ((2, 1), (2, 1), (3, 1), (1, 1), (1, 1)), [
            ((0, 1), (), (1, 0)), ((2, 1), (0, 1), (4, 3)), ((3, 1), (3, 4), (2,)), ((6, 1), (2,), ()),
        ])

    def test_three_workers(self):
        plan = plan_of([(2, 2), (2, 2), (2, 2), (1, 1), (1, 1)], [(0, 3), (1, 4)], order=(4, 3, 2, 1, 0), workers=3)
        self.assert_run(plan, ((2, 1), (2, 1), (2, 1), (1, 1), (1, 1)), [
            ((0, 1), (), (2, 1, 0)), ((2, 1), (0, 1, 2), (4, 3)), ((3, 1), (3, 4), ()),
        ])

    def test_workers_wait_for_forerunners(self):
        plan = plan_of([(4, 4), (1, 1), (1, 1), (1, 1)], [(0, 2), (1, 2), (0, 3)], workers=3)
        self.assert_run(plan, ((4, 1), (1, 1), (1, 1), (1, 1)), [
            ((0, 1), (), (0, 1)), ((1, 1), (1,), ()), ((4, 1), (0,), (2, 3)), ((5, 1), (2, 3), ()),
        ])

    def test_nothing_begins_where_others_run_on(self):
        # Behind task 1 no task is left that may begin; the moment counts all the same.
        self.assert_run(plan_of([(2, 2), (1, 1)]), ((2, 1), (1, 1)), [
            ((0, 1), (), (0, 1)), ((1, 1), (1,), ()), ((2, 1), (0,), ()),
        ])

    def test_different_bottoms(self):
        plan = plan_of([((1, 6), (1, 1))] * 4)
        self.assert_run(plan, ((1, 2), (5, 6), (1, 3), (2, 7)), [
            ((0, 1), (), (0, 1)), ((1, 2), (0,), (2,)), ((5, 6), (1, 2), (3,)), ((47, 42), (3,), ()),
        ])

    def test_sums_are_in_lowest_terms(self):
        plan = plan_of([((1, 6), (1, 1))] * 3, workers=1)
        self.assertEqual(
            times(plan, ((1, 6), (1, 3), (1, 2))),
            (((0, 1), (1, 6)), ((1, 6), (1, 2)), ((1, 2), (1, 1))),
        )

    def test_large_numbers_that_hardly_differ(self):
        large = 10 ** 39
        plan = plan_of([((1, 1), (2, 1))] * 3)
        self.assertEqual(
            course_of(plan, ((large + 1, large), (large + 2, large + 1), (1, 1))),
            ((1,), (0,), (2,)),
        )

    def test_runs_of_all_shapes(self):
        for plan in some_plans(12, 120):
            for value in some_durations(plan, 3, 12):
                with self.subTest(tasks=plan.tasks, order=plan.order, workers=plan.workers, value=value):
                    self.assert_run(plan, value, reference.run(plan, value))

    def test_each_task_runs_for_its_duration(self):
        for plan in some_plans(13, 30):
            for value in some_durations(plan, 4, 5):
                for duration, (begin, end) in zip(value, times(plan, value), strict=True):
                    self.assertEqual(Fraction(*end) - Fraction(*begin), Fraction(*duration))

    def test_less_makes_later(self):
        ends = [Fraction(*whole_end(P, value)) for value in grid(P, 4)]
        self.assertEqual(ends, [8, Fraction(17, 2), 9, 7, 7])


class ConventionsTest(unittest.TestCase):
    def test_arguments_by_name(self):
        for call in (durations_error, times, whole_end, course_of):
            self.assertEqual(call(plan=P, value=LONG), call(P, LONG))
            self.assertEqual(call(value=LONG, plan=P), call(P, LONG))
        self.assertEqual(list(moments(plan=P, value=LONG)), rows_of(P, LONG))

    def test_equal_calls_return_equal_results(self):
        for call in RAISING:
            self.assertEqual(call(P, LONG), call(P.with_order(P.order), tuple(list(LONG))))

    def test_results_are_tuples_at_every_depth(self):
        for found in (times(P, LONG), whole_end(P, LONG), course_of(P, LONG), tuple(rows_of(P, LONG))):
            self.assert_tuples(found)

    def assert_tuples(self, value):
        self.assertIn(type(value), (tuple, int))
        if type(value) is tuple:
            for item in value:
                self.assert_tuples(item)

    def test_arguments_are_not_changed(self):
        value = [[1, 1], {"a": [2]}]
        for call in RAISING:
            with self.assertRaises(BadDurations):
                call(P, value)
        self.assertEqual(value, [[1, 1], {"a": [2]}])


if __name__ == "__main__":
    unittest.main()
