"""Promise [5], and what [3] and [22] say of plans."""

import itertools
import unittest

from lesslater.errors import BadPlan, NoPair, NoTask
from lesslater.plans import Plan
from tests.samples import FORTY, P, Q, T, any_values, no_integers, plan_of, replaced, some_plans

ONE = (((), (1, 1), (1, 1)),)
LOOSE = ((), (1, 1), (2, 1))


def parts(plan):
    return (plan.tasks, plan.order, plan.workers)


class Case(unittest.TestCase):
    def assert_bad(self, number, word, call, /, *arguments, **named):
        with self.assertRaises(BadPlan) as caught:
            call(*arguments, **named)
        self.assertEqual((caught.exception.number, caught.exception.word), (number, word))
        self.assertIs(type(caught.exception.number), type(number))

    def assert_no_task(self, number, call, /, *arguments, **named):
        with self.assertRaises(NoTask) as caught:
            call(*arguments, **named)
        self.assertIs(caught.exception.number, number)


class ExampleTest(unittest.TestCase):
    def test_examples_of_section_2(self):
        self.assertEqual(str(P), "5 tasks, 2 workers")
        self.assertEqual(P.pairs(), ((0, 2), (0, 3)))
        self.assertEqual(P.apart()[:2], ((0, 1), (0, 4)))
        self.assertEqual(P.without_pair(0, 2)[2], ((), (2, 1), (2, 1)))
        self.assertIs(P == Q, False)


class RightPlansTest(Case):
    def test_parts_are_as_given(self):
        for tasks, order, workers in ((T, (4, 3, 2, 1, 0), 1), (T, (0, 1, 4, 2, 3), 3), (ONE, (0,), 2)):
            self.assertEqual(parts(Plan(tasks, order, workers)), (tasks, order, workers))

    def test_arguments_by_name(self):
        self.assertEqual(parts(Plan(tasks=T, order=(0, 1, 2, 3, 4), workers=2)), parts(P))
        self.assertEqual(parts(Plan(workers=2, tasks=T, order=(0, 1, 2, 3, 4))), parts(P))

    def test_as_many_tasks_and_workers_as_there_may_be(self):
        for many in range(1, 6):
            for workers in (1, 2, 3):
                plan = Plan((LOOSE,) * many, tuple(range(many)), workers)
                self.assertEqual((len(plan), plan.workers), (many, workers))

    def test_bounds_at_the_edges(self):
        for low, high in (
            ((1, FORTY), (1, FORTY)), ((1, 1), (1, 1)), ((1, 3), (1, 2)), ((2, 3), (3, 4)), ((FORTY, 1), (FORTY, 1)),
            ((FORTY - 1, FORTY), (FORTY, FORTY - 1)), ((1, FORTY), (FORTY, 1)),
        ):
            with self.subTest(low=low, high=high):
                task = ((), low, high)
                self.assertEqual(Plan((task,), (0,), 1)[0], task)

    def test_every_order(self):
        for order in itertools.permutations(range(4)):
            self.assertEqual(Plan((LOOSE,) * 4, order, 2).order, order)

    def test_forerunners_of_lower_and_of_higher_numbers(self):
        tasks = (((1, 2, 3, 4), (1, 1), (1, 1)), ((3,), (1, 1), (1, 1)), ((1, 3), (1, 1), (1, 1)), LOOSE, LOOSE)
        self.assertEqual(Plan(tasks, (0, 1, 2, 3, 4), 1).tasks, tasks)

    def test_all_forerunners_of_three_tasks(self):
        # Each choice of pairs is a plan exactly if some order of the tasks has each forerunner ahead.
        pairs = [(before, behind) for before in range(3) for behind in range(3) if before != behind]
        for chosen in itertools.product((False, True), repeat=len(pairs)):
            held = [pair for pair, is_held in zip(pairs, chosen) if is_held]
            is_right = any(
                all(order.index(before) < order.index(behind) for before, behind in held)
                for order in itertools.permutations(range(3))
            )
            with self.subTest(held):
                if is_right:
                    self.assertEqual(plan_of([(1, 1)] * 3, held).pairs(), tuple(sorted(held)))
                else:
                    self.assert_bad(None, "ring", plan_of, [(1, 1)] * 3, held)


class BadTasksTest(Case):
    def assert_bad_tasks(self, number, word, tasks):
        order = tuple(range(len(tasks))) if isinstance(tasks, tuple) else (0,)
        self.assert_bad(number, word, Plan, tasks, order, 2)
        self.assert_bad(number, word, Plan, tasks=tasks, order=order, workers=1)

    def test_tasks_that_are_no_tuple_of_1_to_5_items(self):
        values = [value for value in any_values() if not isinstance(value, tuple)]
        tuples = ((), T + (LOOSE,), (LOOSE,) * 7, tuple(range(500)), (None,) * 6)
        for tasks in (*values, *tuples, list(T), [LOOSE], {0: LOOSE}):
            with self.subTest(tasks):
                self.assert_bad_tasks(None, "tasks", tasks)

    def test_tasks_that_are_a_tuple_of_wrong_items(self):
        for value in any_values():
            with self.subTest(value):
                for number in range(3):
                    self.assert_bad_tasks(number, "task", replaced((LOOSE,) * 3, number, wrong_triple(value)))

    def test_items_that_are_no_triple(self):
        for item in ((), LOOSE[:2], LOOSE + ((),), list(LOOSE), (LOOSE,), "abc", {0: (), 1: (1, 1), 2: (2, 1)}, P):
            with self.subTest(item):
                self.assert_bad_tasks(1, "task", (LOOSE, item))
                self.assert_bad_tasks(0, "task", (item,))

    def test_forerunners_of_other_kinds(self):
        for value in any_values():
            if value not in ((), (1,), (1, 2)):
                with self.subTest(value):
                    self.assert_bad_tasks(0, "forerunners", ((value, (1, 1), (1, 1)), LOOSE, LOOSE))

    def test_wrong_forerunners(self):
        for forerunners in (
            [], [1], (2, 1), (1, 1), (0,), (0, 1), (-1,), (3,), (1, 3), (1, 2, 3), (True,), (1, True), (False,),
            (None,), ("1",), ((1,),), ([1],), ({},), (P,), (2, 1, 0), (1, 2, 2), (FORTY,), (1, 2, None),
        ):
            with self.subTest(forerunners):
                self.assert_bad_tasks(0, "forerunners", ((forerunners, (1, 1), (1, 1)), LOOSE, LOOSE))

    def test_false_as_a_forerunner(self):
        self.assert_bad_tasks(1, "forerunners", (LOOSE, ((False,), (1, 1), (1, 1))))

    def test_own_number(self):
        for number in range(3):
            tasks = replaced((LOOSE,) * 3, number, ((number,), (1, 1), (1, 1)))
            self.assert_bad_tasks(number, "forerunners", tasks)

    def test_bounds_of_other_kinds(self):
        for value in any_values():
            if value != (1, 2):
                with self.subTest(value):
                    self.assert_bad_tasks(0, "low", (((), value, (1, 1)),))
                    self.assert_bad_tasks(0, "high", (((), (1, 1), value),))
                    self.assert_bad_tasks(0, "low", (((), value, value),))

    def test_wrong_lows(self):
        for low in (
            (0, 1), (-1, 1), (-FORTY, 1), (2, 2), (2, 4), (1, 0), (1, -1), (-1, -1), [1, 1], (True, 1), (1, True),
        ):
            with self.subTest(low):
                self.assert_bad_tasks(0, "low", (((), low, (5, 1)),))

    def test_wrong_highs(self):
        for high in ((1, 1), (5, 4), (0, 1), (-3, 2), (6, 4), (3, 0), (-3, -2), [3, 2], [2, 1], (True, 1), (2, True)):
            with self.subTest(high):
                self.assert_bad_tasks(0, "high", (((), (3, 2), high),))

    def test_a_high_that_is_hardly_below_the_low(self):
        large = 10 ** 39
        self.assert_bad_tasks(0, "high", (((), (large + 1, large), (large + 2, large + 1)),))

    def test_first_wrong_word(self):
        self.assert_bad_tasks(0, "forerunners", (([], 1, 1),))
        self.assert_bad_tasks(0, "forerunners", (((0,), (0, 1), (2, 1)),))
        self.assert_bad_tasks(0, "forerunners", (((7,), (2, 1), (1, 1)),))
        self.assert_bad_tasks(0, "low", (((), 1, 1),))
        self.assert_bad_tasks(0, "low", (((), (0, 1), (-1, 1)),))

    def test_first_wrong_item(self):
        bad_high = ((), (2, 1), (1, 1))
        self.assert_bad_tasks(1, "high", (LOOSE, bad_high, None, bad_high))
        self.assert_bad_tasks(1, "task", (LOOSE, None, bad_high))
        self.assert_bad_tasks(2, "low", (LOOSE, LOOSE, ((), (0, 1), (1, 1)), ([], (1, 1), (1, 1)), None))

    def test_rings(self):
        def behind(*forerunners):
            return (forerunners, (1, 1), (1, 1))

        for tasks in (
            (behind(1), behind(0)),
            (behind(1), behind(2), behind(0)),
            (behind(), behind(2), behind(3), behind(1)),
            (behind(1), behind(2), behind(3), behind(4), behind(0)),
            (behind(), behind(0, 4), behind(0, 1), behind(0), behind(2, 3)),
            (behind(1, 2), behind(2), behind(1)),
        ):
            with self.subTest(tasks):
                self.assert_bad_tasks(None, "ring", tasks)

    def test_tasks_ahead_of_ring(self):
        ring = (((1,), (1, 1), (1, 1)), ((0,), (1, 1), (1, 1)))
        self.assert_bad_tasks(2, "task", ring + (None,))
        self.assert_bad_tasks(0, "low", (((1,), (0, 1), (1, 1)), ring[1]))


def wrong_triple(value):
    """Return value, or something with it that is no triple."""
    return (value, (1, 1)) if isinstance(value, tuple) and len(value) == 3 else value


class BadOrderAndWorkersTest(Case):
    ORDERS = (
        (), (0, 1), (1, 2, 3), (0, 1, 1), (0, 0, 2), (0, 1, 2, 2), (0, 1, 2, 3), (0, 1, 2, 0), (0, 1, 3), (0, 1, -1),
        [0, 1, 2], [2, 1, 0], (0, True, 2), (False, 1, 2), (0, 1, None), (0, 1, "2"), (0, 1, (2,)), (0, 1, [2]),
        (0, 1, {}), (0, 1, P), (None, None, None), "012", {0: 0, 1: 1, 2: 2}, (0, 1, FORTY),
    )
    WORKERS = (0, 4, -1, 5, FORTY, -FORTY)

    def test_orders(self):
        for order in (*self.ORDERS, *any_values()):
            with self.subTest(order):
                self.assert_bad(None, "order", Plan, (LOOSE,) * 3, order, 2)
                self.assert_bad(None, "order", plan_of([(1, 2)] * 3).with_order, order)
                self.assert_bad(None, "order", plan_of([(1, 2)] * 3).with_order, order=order)

    def test_workers(self):
        for workers in (*self.WORKERS, *no_integers()):
            with self.subTest(workers):
                self.assert_bad(None, "workers", Plan, T, (0, 1, 2, 3, 4), workers)
                self.assert_bad(None, "workers", P.with_workers, workers)
                self.assert_bad(None, "workers", P.with_workers, workers=workers)

    def test_several_faults_at_once(self):
        ring = (((1,), (1, 1), (1, 1)), ((0,), (1, 1), (1, 1)))
        for order in self.ORDERS:
            for workers in self.WORKERS:
                with self.subTest(order=order, workers=workers):
                    self.assert_bad(None, "tasks", Plan, (), order, workers)
                    self.assert_bad(0, "task", Plan, (None, None, None), order, workers)
                    self.assert_bad(1, "high", Plan, replaced(T, 1, ((), (2, 1), (1, 1))), order, workers)
                    self.assert_bad(None, "ring", Plan, ring + (LOOSE,), order, workers)
                    self.assert_bad(None, "order", Plan, (LOOSE,) * 3, order, workers)

    def test_any_values_for_all(self):
        for tasks, order, workers in itertools.product(any_values(), repeat=3):
            with self.assertRaises(BadPlan):
                Plan(tasks, order, workers)


class ReadingTest(Case):
    def test_tasks_by_number(self):
        for number, task in enumerate(T):
            self.assertEqual(P[number], task)

    def test_numbers_of_no_task(self):
        for plan in (P, plan_of([(1, 2)])):
            for number in (*no_integers(), -1, -5, len(plan), len(plan) + 1, FORTY, -FORTY, [0], {0: 0}, (0,), "0"):
                with self.subTest(number):
                    self.assert_no_task(number, lambda: plan[number])

    def test_len(self):
        for many in range(1, 6):
            self.assertEqual(len(plan_of([(1, 2)] * many)), many)

    def test_str(self):
        for many in range(1, 6):
            for workers in (1, 2, 3):
                plan = plan_of([(1, 2)] * many, workers=workers)
                self.assertEqual(str(plan), f"{many} tasks, {workers} workers")
        self.assertEqual(str(plan_of([(1, 2)], workers=1)), "1 tasks, 1 workers")

    def test_parts_cannot_be_assigned(self):
        for name in ("tasks", "order", "workers"):
            plan = Plan(T, (0, 1, 2, 3, 4), 2)
            with self.assertRaises(AttributeError):
                setattr(plan, name, getattr(plan, name))
            self.assertEqual(parts(plan), parts(P))

    def test_tasks_cannot_be_assigned_by_number(self):
        with self.assertRaises(TypeError):
            P[0] = LOOSE


class EqualTest(unittest.TestCase):
    def assert_equality(self, is_equal, one, other):
        self.assertIs(one == other, is_equal)
        self.assertIs(other == one, is_equal)
        self.assertIs(one != other, not is_equal)
        self.assertIs(other != one, not is_equal)

    def test_equal_plans(self):
        for plan in (P, Q, *some_plans(1, 20)):
            self.assert_equality(True, plan, plan)
            self.assert_equality(True, plan, Plan(*parts(plan)))

    def test_other_tasks(self):
        self.assert_equality(False, P, Plan(replaced(T, 0, ((), (1, 1), (2, 1))), P.order, P.workers))
        self.assert_equality(False, P, Plan(replaced(T, 0, ((), (2, 1), (3, 1))), P.order, P.workers))
        self.assert_equality(False, P, Plan(replaced(T, 4, ((0,), (5, 1), (5, 1))), P.order, P.workers))
        self.assert_equality(False, P, Plan(T[:4], (0, 1, 2, 3), 2))

    def test_other_order(self):
        self.assert_equality(False, P, Plan(T, (1, 0, 2, 3, 4), 2))

    def test_other_workers(self):
        self.assert_equality(False, P, Plan(T, P.order, 1))
        self.assert_equality(False, P, Plan(T, P.order, 3))

    def test_other_kinds(self):
        for value in (*any_values(), T, P.order, parts(P), [parts(P)], str(P)):
            if value is not P:
                with self.subTest(value):
                    self.assert_equality(False, P, value)


class WithPartsTest(Case):
    def test_with_task(self):
        old = parts(P)
        task = ((1, 3), (1, 2), (7, 1))
        self.assertEqual(parts(P.with_task(4, task)), (replaced(T, 4, task), P.order, 2))
        for number in range(5):
            self.assertEqual(parts(P.with_task(number, LOOSE)), (replaced(T, number, LOOSE), P.order, 2))
        self.assertEqual(P.with_task(number=1, task=LOOSE), P.with_task(1, LOOSE))
        self.assertEqual(P.with_task(3, T[3]), P)
        self.assertEqual(parts(P), old)

    def test_with_task_of_no_number(self):
        for number in (*no_integers(), -1, 5, FORTY):
            for task in (LOOSE, None, ((0,), (0, 1), 1)):
                with self.subTest(number):
                    self.assert_no_task(number, P.with_task, number, task)
                    self.assert_no_task(number, P.with_task, number=number, task=task)

    def test_with_task_that_is_none(self):
        for value in any_values():
            with self.subTest(value):
                self.assert_bad(3, "task", P.with_task, 3, wrong_triple(value))
        for task, word in (
            (list(LOOSE), "task"), (((3,), (1, 1), (1, 1)), "forerunners"), (((5,), (1, 1), (1, 1)), "forerunners"),
            (([], (1, 1), (1, 1)), "forerunners"), (((), (0, 1), (1, 1)), "low"), (((), (2, 1), (1, 1)), "high"),
            (((), None, None), "low"), ((None, None, None), "forerunners"),
        ):
            with self.subTest(task):
                self.assert_bad(3, word, P.with_task, 3, task)
                self.assert_bad(3, word, P.with_task, number=3, task=task)

    def test_with_task_in_a_ring(self):
        self.assert_bad(None, "ring", P.with_task, 0, ((2,), (1, 1), (1, 1)))
        chain = plan_of([(1, 1)] * 4, [(0, 1), (1, 2), (2, 3)])
        self.assert_bad(None, "ring", chain.with_task, 0, ((3,), (1, 1), (1, 1)))
        self.assert_bad(0, "low", chain.with_task, 0, ((3,), (0, 1), (1, 1)))

    def test_with_order(self):
        for order in itertools.permutations(range(5)):
            self.assertEqual(parts(P.with_order(order)), (T, order, 2))
        self.assertEqual(P.with_order(order=(4, 3, 2, 1, 0)), P.with_order((4, 3, 2, 1, 0)))
        self.assertEqual(P.order, (0, 1, 2, 3, 4))

    def test_with_workers(self):
        for workers in (1, 2, 3):
            self.assertEqual(parts(P.with_workers(workers)), (T, P.order, workers))
            self.assertEqual(P.with_workers(workers=workers), P.with_workers(workers))
        self.assertEqual(P.workers, 2)


class PairsTest(Case):
    def test_pairs_are_ascending(self):
        plan = plan_of([(1, 1)] * 5, [(4, 0), (3, 0), (1, 0), (4, 2), (0, 2), (3, 1)])
        self.assertEqual(plan.pairs(), ((0, 2), (1, 0), (3, 0), (3, 1), (4, 0), (4, 2)))
        self.assertEqual(plan_of([(1, 1)] * 5).pairs(), ())

    def test_with_pair(self):
        for plan in some_plans(2, 40):
            old = parts(plan)
            for before, behind in plan.apart():
                new = plan.with_pair(before, behind)
                self.assertEqual(new.pairs(), tuple(sorted({*plan.pairs(), (before, behind)})))
                self.assertEqual((new.order, new.workers), (plan.order, plan.workers))
                self.assertEqual([task[1:] for task in new.tasks], [task[1:] for task in plan.tasks])
                self.assertEqual(new.without_pair(before, behind), plan)
                turned = plan.with_pair(behind, before)
                self.assertEqual(turned.pairs(), tuple(sorted({*plan.pairs(), (behind, before)})))
            self.assertEqual(parts(plan), old)

    def test_forerunners_stay_ascending(self):
        plan = plan_of([(1, 1)] * 5)
        for befores in itertools.permutations((0, 1, 3, 4)):
            new = plan
            for before in befores:
                new = new.with_pair(before, 2)
            self.assertEqual(new[2][0], (0, 1, 3, 4))
            new = new.without_pair(befores[0], 2)
            self.assertEqual(new[2][0], tuple(sorted(befores[1:])))

    def test_with_pair_that_is_there(self):
        for plan in some_plans(3, 40):
            for before, behind in plan.pairs():
                self.assertEqual(plan.with_pair(before, behind), plan)

    def test_pairs_by_name(self):
        self.assertEqual(P.with_pair(before=1, behind=4), P.with_pair(1, 4))
        self.assertEqual(P.with_pair(behind=4, before=1).pairs(), ((0, 2), (0, 3), (1, 4)))
        self.assertEqual(P.without_pair(behind=3, before=0).pairs(), ((0, 2),))

    def test_no_tasks(self):
        for call in (P.with_pair, P.without_pair):
            for value in (*no_integers(), -1, 5, FORTY):
                with self.subTest(value):
                    self.assert_no_task(value, call, value, 2)
                    self.assert_no_task(value, call, 0, value)
                    self.assert_no_task(value, call, value, value)
                    self.assert_no_task(value, call, before=value, behind=7)
                    self.assert_no_task(value, call, behind=value, before=1)

    def test_with_pair_in_a_ring(self):
        for number in range(5):
            self.assert_bad(None, "ring", P.with_pair, number, number)
        self.assert_bad(None, "ring", P.with_pair, 2, 0)
        chain = plan_of([(1, 1)] * 5, [(0, 1), (1, 2), (2, 3), (3, 4)])
        for before in range(5):
            for behind in range(before + 1):
                self.assert_bad(None, "ring", chain.with_pair, before, behind)
        self.assertEqual(chain.pairs(), ((0, 1), (1, 2), (2, 3), (3, 4)))

    def test_without_pair(self):
        for plan in some_plans(4, 40):
            old = parts(plan)
            for before, behind in plan.pairs():
                new = plan.without_pair(before, behind)
                self.assertEqual(new.pairs(), tuple(pair for pair in plan.pairs() if pair != (before, behind)))
                self.assertEqual((new.order, new.workers), (plan.order, plan.workers))
                self.assertEqual([task[1:] for task in new.tasks], [task[1:] for task in plan.tasks])
            self.assertEqual(parts(plan), old)

    def test_without_pair_that_is_not_there(self):
        chain = plan_of([(1, 1)] * 3, [(0, 1), (1, 2)])
        for before in range(3):
            for behind in range(3):
                if (before, behind) not in chain.pairs():
                    with self.subTest(before=before, behind=behind):
                        with self.assertRaises(NoPair) as caught:
                            chain.without_pair(before, behind)
                        self.assertEqual((caught.exception.before, caught.exception.behind), (before, behind))


class ApartTest(unittest.TestCase):
    def test_loose_tasks(self):
        self.assertEqual(plan_of([(1, 1)]).apart(), ())
        self.assertEqual(plan_of([(1, 1)] * 3).apart(), ((0, 1), (0, 2), (1, 2)))
        self.assertEqual(P.apart(), ((0, 1), (0, 4), (1, 2), (1, 3), (1, 4), (2, 3), (2, 4), (3, 4)))

    def test_along_several_forerunners(self):
        self.assertEqual(plan_of([(1, 1)] * 5, [(0, 1), (1, 2), (2, 3), (3, 4)]).apart(), ())
        self.assertEqual(plan_of([(1, 1)] * 5, [(4, 2), (2, 0), (0, 3), (3, 1)]).apart(), ())
        self.assertEqual(plan_of([(1, 1)] * 4, [(3, 1), (1, 0)]).apart(), ((0, 2), (1, 2), (2, 3)))

    def test_apart_are_those_that_orders_have_both_ways(self):
        for plan in some_plans(5, 60):
            many = len(plan)
            orders = [
                order for order in itertools.permutations(range(many))
                if all(order.index(before) < order.index(behind) for before, behind in plan.pairs())
            ]
            told = tuple(
                (one, other) for one, other in itertools.combinations(range(many), 2)
                if len({order.index(one) < order.index(other) for order in orders}) == 2
            )
            self.assertEqual(plan.apart(), told)


class ErrorsTest(unittest.TestCase):
    def test_a_call_that_raises_changes_nothing(self):
        task = [[], [1, 1], {"a": [1]}]
        for call in (
            lambda: P.with_task(0, task), lambda: P.with_task(task, task), lambda: P.with_order(task),
            lambda: P.with_workers(task), lambda: P.with_pair(0, task), lambda: P.without_pair(1, 0), lambda: P[task],
        ):
            with self.assertRaises((BadPlan, NoTask, NoPair)):
                call()
        self.assertEqual(task, [[], [1, 1], {"a": [1]}])
        self.assertEqual(parts(P), (T, (0, 1, 2, 3, 4), 2))


if __name__ == "__main__":
    unittest.main()
