"""Promise [16], and what [3] says of it."""

import random
import unittest
from fractions import Fraction

from lesslater import errors
from lesslater.benches import Bench
from lesslater.desks import Desk
from lesslater.errors import BadDay, BadPlan, Full, Late, NoPair, NoTask, NothingToUndo, TooMany
from lesslater.lateness import latest
from lesslater.plans import Plan
from lesslater.runs import durations_error, whole_end
from lesslater.steady import is_steady
from lesslater.walkers import Walker
from tests.samples import (
    LOOSE, NEAR, P, Q, SIXTY, SIXTY_ONE, T, WIDE, WIDE_ONE, any_values, jumpy_plans, no_integers, parting_plans,
    some_plans,
)

FAR = (100, 1)
TASK = ((), (5, 1), (6, 1))


def standing(bench):
    return (bench.plan, bench.day, bench.version, bench.news, str(bench))


def full_bench(plan=P, day=FAR):
    """Return a bench with as many edits in effect as it takes."""
    bench = Bench(plan, day)
    for _ in range(20):
        bench.set_workers(plan.workers)
    return bench


class BenchCase(unittest.TestCase):
    def assert_stands(self, bench, plan, day, version, news):
        self.assertEqual(standing(bench), (plan, day, version, news, f"bench at version {version}"))

    def assert_late(self, error, plan, day):
        self.assertIsNone(durations_error(plan, error.durations))
        self.assertGreater(Fraction(*whole_end(plan, error.durations)), Fraction(*day))

    def assert_refused(self, kind, bench, call):
        """Check that a call raises an error and leaves the bench as it is; return the error."""
        old = standing(bench)
        with self.assertRaises(kind) as caught:
            call()
        self.assertEqual(standing(bench), old)
        return caught.exception


class NewBenchTest(BenchCase):
    def test_at_first(self):
        for plan, day in ((P, (9, 1)), (Q, (7, 1)), (NEAR, (13, 1)), (SIXTY, (8, 1)), (P, FAR), (P, (181, 20))):
            self.assert_stands(Bench(plan, day), plan, day, 0, "same")
            self.assert_stands(Bench(day=day, plan=plan), plan, day, 0, "same")

    def test_late(self):
        near = (13 * 10 ** 20 - 1, 10 ** 20)
        for plan, day in ((P, (8, 1)), (P, (89, 10)), (P, (0, 1)), (P, (-9, 1)), (Q, (13, 2)), (NEAR, near)):
            with self.assertRaises(Late) as caught:
                Bench(plan, day)
            self.assert_late(caught.exception, plan, day)

    def test_too_many_comes_first(self):
        for plan in (LOOSE, SIXTY_ONE):
            for day in (FAR, (0, 1)):
                with self.assertRaises(TooMany) as caught:
                    Bench(plan, day)
                self.assertEqual(caught.exception.limit, 60)


class EditTest(BenchCase):
    def test_each_editing_method(self):
        for call, plan, day, news in (
            (lambda bench: bench.set_task(4, TASK), P.with_task(4, TASK), FAR, "later"),
            (lambda bench: bench.set_task(task=TASK, number=4), P.with_task(4, TASK), FAR, "later"),
            (lambda bench: bench.set_order((0, 1, 4, 2, 3)), Q, FAR, "sooner"),
            (lambda bench: bench.set_order(order=(0, 1, 4, 2, 3)), Q, FAR, "sooner"),
            (lambda bench: bench.set_workers(1), P.with_workers(1), FAR, "later"),
            (lambda bench: bench.set_workers(workers=3), P.with_workers(3), FAR, "sooner"),
            (lambda bench: bench.add_pair(0, 1), P.with_pair(0, 1), FAR, "sooner"),
            (lambda bench: bench.add_pair(behind=1, before=0), P.with_pair(0, 1), FAR, "sooner"),
            (lambda bench: bench.drop_pair(0, 2), P.without_pair(0, 2), FAR, "same"),
            (lambda bench: bench.drop_pair(behind=2, before=0), P.without_pair(0, 2), FAR, "same"),
            (lambda bench: bench.set_day((9, 1)), P, (9, 1), "same"),
            (lambda bench: bench.set_day(value=(19, 2)), P, (19, 2), "same"),
        ):
            bench = Bench(P, FAR)
            self.assertEqual(call(bench), 1)
            self.assert_stands(bench, plan, day, 1, news)
            self.assertEqual(call(full_bench_less_one()), 20)
            self.assertEqual(bench.undo(), 0)
            turned = {"later": "sooner", "sooner": "later", "same": "same"}
            self.assert_stands(bench, P, FAR, 0, turned[news])

    def test_an_item_set(self):
        bench = Bench(P, FAR)
        bench[4] = TASK
        self.assert_stands(bench, P.with_task(4, TASK), FAR, 1, "later")
        self.assertEqual(bench[4], TASK)

    def test_edits_that_change_nothing(self):
        bench = Bench(P, (9, 1))
        for version, call in enumerate((
            lambda: bench.set_task(0, T[0]), lambda: bench.set_order(P.order), lambda: bench.set_workers(2),
            lambda: bench.add_pair(0, 2), lambda: bench.set_day((9, 1)),
        )):
            self.assertEqual(call(), version + 1)
            self.assert_stands(bench, P, (9, 1), version + 1, "same")
        for version in (4, 3, 2, 1, 0):
            self.assertEqual(bench.undo(), version)
            self.assert_stands(bench, P, (9, 1), version, "same")

    def test_own_errors(self):
        bench = Bench(P, (9, 1))
        for value in (5, -1, True, False, *no_integers()):
            for call in (
                lambda: bench.set_task(value, None), lambda: bench.add_pair(value, None),
                lambda: bench.drop_pair(value, None), lambda: bench[value],
            ):
                self.assertIs(self.assert_refused(NoTask, bench, call).number, value)
            for call in (lambda: bench.add_pair(0, value), lambda: bench.drop_pair(0, value)):
                self.assertIs(self.assert_refused(NoTask, bench, call).number, value)
        with self.assertRaises(NoTask):
            bench[9] = TASK

    def test_errors_of_plans(self):
        bench = Bench(P, (9, 1))
        for call, told in (
            (lambda: bench.set_task(1, None), (1, "task")),
            (lambda: bench.set_task(1, ((1,), (1, 1), (1, 1))), (1, "forerunners")),
            (lambda: bench.set_task(1, ((), (0, 1), (1, 1))), (1, "low")),
            (lambda: bench.set_task(1, ((), (2, 1), (1, 1))), (1, "high")),
            (lambda: bench.set_task(0, ((2,), (1, 1), (3, 1))), (None, "ring")),
            (lambda: bench.set_order((0, 1, 2, 3)), (None, "order")), (lambda: bench.set_order([0]), (None, "order")),
            (lambda: bench.set_workers(4), (None, "workers")), (lambda: bench.set_workers(True), (None, "workers")),
            (lambda: bench.add_pair(2, 0), (None, "ring")), (lambda: bench.add_pair(1, 1), (None, "ring")),
        ):
            error = self.assert_refused(BadPlan, bench, call)
            self.assertEqual((error.number, error.word), told)
        for value in any_values():
            self.assert_refused(BadPlan, bench, lambda: bench.set_task(0, value))
            self.assert_refused(BadPlan, bench, lambda: bench.set_order(value))
            if value not in (1, 2, 3) or value is True:
                self.assert_refused(BadPlan, bench, lambda: bench.set_workers(value))
        error = self.assert_refused(NoPair, bench, lambda: bench.drop_pair(0, 4))
        self.assertEqual((error.before, error.behind), (0, 4))

    def test_bad_days(self):
        bench = Bench(P, (9, 1))
        for value in (
            9, "9", None, True, (9,), [9, 1], (18, 2), (9, 0), (9, -1), (9, True), (9, 1, 1), ((9, 1),), *no_integers(),
        ):
            if value not in ((1, 2),):
                self.assertIs(self.assert_refused(BadDay, bench, lambda: bench.set_day(value)).value, value)

    def test_late(self):
        bench = Bench(P, (9, 1))
        longer = ((), (5, 1), (51, 10))
        for call, plan, day in (
            (lambda: bench.set_task(4, longer), P.with_task(4, longer), (9, 1)),
            (lambda: bench.set_workers(1), P.with_workers(1), (9, 1)),
            (lambda: bench.add_pair(3, 4), P.with_pair(3, 4), (9, 1)),
            (lambda: bench.set_day((8, 1)), P, (8, 1)), (lambda: bench.set_day((0, 1)), P, (0, 1)),
            (lambda: bench.set_day((-1, 3)), P, (-1, 3)),
        ):
            self.assert_late(self.assert_refused(Late, bench, call), plan, day)
        steady = Bench(P.with_pair(0, 1), (7, 1))
        self.assert_late(self.assert_refused(Late, steady, lambda: steady.drop_pair(0, 1)), P, (7, 1))
        turned = Bench(Q, (7, 1))
        self.assert_late(self.assert_refused(Late, turned, lambda: turned.set_order(P.order)), P, (7, 1))

    def test_too_many(self):
        one = Bench(LOOSE.with_workers(1), FAR)
        self.assertEqual(self.assert_refused(TooMany, one, lambda: one.set_workers(3)).limit, 60)
        # Late as well: too many courses are told.
        sixty = Bench(SIXTY, (8, 1))
        wide = ((), (1, 1), (40, 1))
        self.assertEqual(self.assert_refused(TooMany, sixty, lambda: sixty.set_task(0, wide)).limit, 60)
        chain = Bench(LOOSE.with_pair(0, 1).with_pair(1, 2).with_pair(2, 3).with_pair(3, 4), FAR)
        chain.drop_pair(0, 1)
        chain.drop_pair(1, 2)
        self.assertEqual(self.assert_refused(TooMany, chain, lambda: chain.drop_pair(2, 3)).limit, 60)

    def test_a_bench_goes_by_its_day(self):
        bench = Bench(P, FAR)
        bench.set_day((9, 1))
        self.assert_refused(Late, bench, lambda: bench.set_workers(1))
        bench.set_day((14, 1))
        self.assertEqual(bench.set_workers(1), 3)
        self.assert_refused(Late, bench, lambda: bench.set_day((9, 1)))
        bench.set_workers(3)
        self.assertEqual(bench.set_day((5, 1)), 5)


def full_bench_less_one():
    bench = full_bench()
    bench.undo()
    return bench


class FullTest(BenchCase):
    def test_twenty_edits(self):
        bench = Bench(P, FAR)
        for version in range(1, 21):
            self.assertEqual(bench.set_workers(1 + version % 2), version)
            self.assertEqual(bench.version, version)
        self.assert_refused(Full, bench, lambda: bench.set_workers(2))
        self.assertEqual(bench.undo(), 19)
        self.assertEqual(bench.set_day(FAR), 20)
        self.assert_refused(Full, bench, lambda: bench.set_day(FAR))

    def test_ahead_of_all_other_errors(self):
        bench = full_bench()
        for value in (None, True, -1, 9, (), [], "0", P):
            for call in (
                lambda: bench.set_task(value, value), lambda: bench.set_task(0, value), lambda: bench.set_order(value),
                lambda: bench.set_workers(value), lambda: bench.add_pair(value, value),
                lambda: bench.drop_pair(value, value), lambda: bench.set_day(value),
                lambda: bench.__setitem__(value, value),
            ):
                self.assert_refused(Full, bench, call)
        for call in (
            lambda: bench.set_day((0, 1)), lambda: bench.set_workers(1), lambda: bench.drop_pair(1, 0),
            lambda: bench.add_pair(2, 0), lambda: bench.set_order(P.order),
        ):
            self.assert_refused(Full, bench, call)
        loose = full_bench(LOOSE.with_workers(1))
        self.assert_refused(Full, loose, lambda: loose.set_workers(3))

    def test_what_is_no_edit_goes_on(self):
        bench = full_bench()
        self.assertEqual((bench[0], bench.is_steady()), (T[0], False))
        self.assertEqual(bench.tried(lambda held: held.undo()), 19)
        self.assertEqual(bench.undo(), 19)


class UndoTest(BenchCase):
    def test_nothing_to_undo(self):
        bench = Bench(P, (9, 1))
        self.assert_refused(NothingToUndo, bench, bench.undo)
        bench.set_workers(3)
        bench.undo()
        self.assert_refused(NothingToUndo, bench, bench.undo)

    def test_to_the_start(self):
        chance = random.Random(101)
        for plan in (P, NEAR, *jumpy_plans(102, 6)):
            bench = Bench(plan, FAR)
            held = [(plan, FAR)]
            for _ in range(12):
                some_edit(bench, chance)
                held.append((bench.plan, bench.day))
            for version in range(11, -1, -1):
                old = latest(bench.plan)[0]
                self.assertEqual(bench.undo(), version)
                plan_then, day_then = held[version]
                self.assert_stands(bench, plan_then, day_then, version, word(old, latest(plan_then)[0]))
            self.assert_refused(NothingToUndo, bench, bench.undo)

    def test_undo_of_a_day(self):
        bench = Bench(P, FAR)
        bench.set_day((9, 1))
        self.assertEqual((bench.undo(), bench.day), (0, FAR))
        self.assertEqual(bench.set_workers(1), 1)


def word(old, new):
    """Return the news for two ends."""
    old, new = Fraction(*old), Fraction(*new)
    return "later" if new > old else "sooner" if new < old else "same"


def some_edit(bench, chance):
    """Do an edit that raises nothing, drawn by chance."""
    while True:
        number, other = chance.sample(range(5), 2)
        edits = (
            lambda: bench.set_order(tuple(chance.sample(range(5), 5))),
            lambda: bench.set_workers(chance.choice((1, 2))), lambda: bench.add_pair(number, other),
            lambda: bench.drop_pair(number, other), lambda: bench.set_day((chance.randint(40, 90), 1)),
            lambda: bench.set_task(number, (bench[number][0], (3, 1), (chance.randint(3, 6), 1))),
        )
        try:
            return chance.choice(edits)()
        except (errors.PlanError, NoPair):
            continue


class NewsTest(BenchCase):
    def test_behind_each_edit(self):
        chance = random.Random(103)
        seen = set()
        for plan in (P, NEAR, *jumpy_plans(104, 6)):
            bench = Bench(plan, FAR)
            for _ in range(15):
                old = latest(bench.plan)[0]
                some_edit(bench, chance)
                self.assertEqual(bench.news, word(old, latest(bench.plan)[0]))
                seen.add(bench.news)
        self.assertEqual(seen, {"later", "same", "sooner"})

    def test_the_end_alone(self):
        # The latest end is 13 in both plans, met in just one of them.
        bench = Bench(NEAR, FAR)
        bench.set_task(2, ((0,), (5, 1), (6, 1)))
        self.assertEqual(latest(NEAR), ((13, 1), None))
        self.assertEqual(latest(bench.plan)[0], (13, 1))
        self.assertIsNotNone(latest(bench.plan)[1])
        self.assertEqual(bench.news, "same")

    def test_an_error_leaves_it(self):
        bench = Bench(P, (9, 1))
        bench.set_order(Q.order)
        self.assertEqual(bench.news, "sooner")
        for kind, call in (
            (Late, lambda: bench.set_workers(1)), (BadPlan, lambda: bench.set_workers(0)),
            (NoTask, lambda: bench.add_pair(0, 7)), (BadDay, lambda: bench.set_day(None)),
            (NoPair, lambda: bench.drop_pair(0, 1)),
        ):
            self.assert_refused(kind, bench, call)
            self.assertEqual(bench.news, "sooner")
        bench.undo()
        self.assertEqual(bench.news, "later")
        self.assert_refused(NothingToUndo, bench, bench.undo)
        self.assertEqual(bench.news, "later")
        bench.set_day((10, 1))
        self.assertEqual(bench.news, "same")


class SteadyTest(BenchCase):
    def test_whether_the_plan_is_steady(self):
        bench = Bench(P, FAR)
        self.assertIs(bench.is_steady(), False)
        bench.set_order(Q.order)
        self.assertIs(bench.is_steady(), True)
        bench.undo()
        self.assertIs(bench.is_steady(), False)
        bench.add_pair(0, 1)
        self.assertIs(bench.is_steady(), True)
        self.assert_stands(bench, P.with_pair(0, 1), FAR, 1, "sooner")
        for plan in (NEAR, *jumpy_plans(105, 10), *parting_plans(106, 20)):
            self.assertIs(Bench(plan, FAR).is_steady(), is_steady(plan))

    def test_a_plan_with_sixty_courses_and_others_beside_it(self):
        bench = Bench(WIDE, (99, 1))
        self.assertIs(bench.is_steady(), True)
        self.assertEqual(self.assert_refused(TooMany, bench, lambda: bench.set_task(2, WIDE_ONE[2])).limit, 60)
        self.assertIs(bench.is_steady(), True)
        bench.set_workers(2)
        self.assertIs(bench.is_steady(), True)
        bench.add_pair(0, 2)
        self.assertIs(bench.is_steady(), False)
        self.assertIs(bench.tried(lambda held: (held.undo(), held.is_steady())[1]), True)
        self.assertIs(bench.is_steady(), False)
        bench.set_order((0, 1, 3, 4, 2))
        self.assertIs(bench.is_steady(), is_steady(bench.plan))
        bench.set_workers(3)
        self.assertIs(bench.is_steady(), True)
        for _ in range(4):
            bench.undo()
        self.assertIs(bench.is_steady(), True)
        self.assert_stands(bench, WIDE, (99, 1), 0, "sooner")


class Stopped(Exception):
    """An error that is none of the package's."""


class TriedTest(BenchCase):
    def setUp(self):
        self.bench = Bench(P, (20, 1))
        self.bench.set_day((19, 1))
        self.bench.set_order(Q.order)
        self.old = standing(self.bench)

    def assert_put_back(self):
        self.assertEqual(standing(self.bench), self.old)
        self.assertEqual(self.bench.undo(), 1)
        self.assert_stands(self.bench, P, (19, 1), 1, "later")
        self.assertEqual(self.bench.undo(), 0)
        self.assert_stands(self.bench, P, (20, 1), 0, "same")
        self.assert_refused(NothingToUndo, self.bench, self.bench.undo)

    def edit_all(self, bench):
        bench.set_workers(1)
        bench.set_day((18, 1))
        bench.undo()
        bench.undo()
        bench.undo()
        bench.undo()
        bench.set_task(0, ((), (1, 1), (1, 1)))
        return (bench, [1])

    def test_what_it_returns(self):
        for value in any_values():
            self.assertIs(self.bench.tried(lambda bench: value), value)
        self.assertIsNone(self.bench.tried(lambda bench: None))
        self.assertIsNone(self.bench.tried(function=lambda bench: None))
        self.assertEqual(self.bench.tried(lambda bench: bench.version), 2)
        self.assert_put_back()

    def test_it_is_called_with_the_bench(self):
        found = self.bench.tried(self.edit_all)
        self.assertIs(found[0], self.bench)
        self.assertEqual(found[1], [1])
        self.assert_put_back()

    def test_edits_are_there_within_the_call(self):
        def function(bench):
            bench.set_workers(1)
            return standing(bench)

        self.assertEqual(
            self.bench.tried(function), (Q.with_workers(1), (19, 1), 3, "later", "bench at version 3"),
        )
        self.assert_put_back()

    def test_what_it_raises_goes_on(self):
        error = Stopped()

        def function(bench):
            self.edit_all(bench)
            raise error

        with self.assertRaises(Stopped) as caught:
            self.bench.tried(function)
        self.assertIs(caught.exception, error)
        self.assert_put_back()

    def test_errors_of_the_package_go_on(self):
        for kind, last in (
            (Late, lambda bench: bench.set_day((0, 1))), (BadPlan, lambda bench: bench.set_workers(9)),
            (NoTask, lambda bench: bench[7]), (KeyError, lambda bench: {}[1]),
        ):
            with self.assertRaises(kind):
                self.bench.tried(lambda bench: (self.edit_all(bench), last(bench)))
            self.assertEqual(standing(self.bench), self.old)
        self.assert_put_back()

    def test_full_as_ahead_of_it(self):
        def function(bench):
            while bench.version < 20:
                bench.set_workers(2)
            self.assert_refused(Full, bench, lambda: bench.set_workers(2))

        self.bench.tried(function)
        self.assertEqual(self.bench.set_workers(2), 3)
        full = full_bench()
        full.tried(lambda bench: [bench.undo() for _ in range(20)])
        self.assertEqual(full.version, 20)
        self.assert_refused(Full, full, lambda: full.set_workers(2))

    def test_tried_within_tried(self):
        def inner(bench):
            bench.undo()
            bench.set_workers(3)
            raise Stopped()

        def outer(bench):
            bench.set_workers(1)
            old = standing(bench)
            with self.assertRaises(Stopped):
                bench.tried(inner)
            self.assertEqual(standing(bench), old)
            self.assertEqual(bench.tried(lambda held: held.undo()), 2)
            self.assertEqual(standing(bench), old)
            return bench.undo()

        self.assertEqual(self.bench.tried(outer), 2)
        self.assert_put_back()

    def test_what_was_done_to_other_objects_stays(self):
        desk, other, walker, seen = Desk(self.bench), Bench(P, FAR), Walker(P), []

        def function(bench):
            desk.say("workers 1")
            other.set_workers(3)
            walker((0, 1))
            seen.append(bench.version)
            raise Stopped()

        with self.assertRaises(Stopped):
            self.bench.tried(function)
        self.assertEqual(desk.history, (("workers 1", "ok 3"),))
        self.assertEqual((other.version, walker.beginning, seen), (1, ((0, 1),), [3]))
        self.assert_put_back()


class LooksTest(BenchCase):
    def test_equal_ones(self):
        bench = Bench(P, (9, 1))
        other = Bench(P, FAR)
        other.set_workers(1)
        other.set_workers(2)
        other.set_day((9, 1))
        for equal in (bench, Bench(Plan(T, P.order, 2), (9, 1)), other):
            self.assertIs(bench == equal, True)
            self.assertIs(bench != equal, False)
        other.undo()
        self.assertIs(bench == other, False)
        self.assertIs(bench != other, True)

    def test_others(self):
        bench = Bench(P, (9, 1))
        others = [
            Bench(P, (10, 1)), Bench(Q, (9, 1)), Bench(P.with_workers(3), (9, 1)), P, (9, 1), (P, (9, 1)), Walker(P),
            Desk(bench), [bench], *any_values(),
        ]
        for other in others:
            self.assertIs(bench == other, False)
            self.assertIs(bench != other, True)
            self.assertIs(other == bench, False)

    def test_str(self):
        bench = Bench(P, FAR)
        self.assertEqual(str(bench), "bench at version 0")
        for version in (1, 2, 3):
            bench.set_workers(1)
            self.assertEqual(str(bench), f"bench at version {version}")
        self.assertEqual(str(full_bench()), "bench at version 20")

    def test_items(self):
        bench = Bench(P, FAR)
        self.assertEqual([bench[number] for number in range(5)], list(T))
        for value in (5, -1, 10 ** 40, *no_integers()):
            self.assertIs(self.assert_refused(NoTask, bench, lambda: bench[value]).number, value)

    def test_items_set(self):
        bench = Bench(P, (9, 1))

        def put(number, task):
            bench[number] = task

        self.assertIs(self.assert_refused(NoTask, bench, lambda: put(None, None)).number, None)
        error = self.assert_refused(BadPlan, bench, lambda: put(1, ((0,), (1, 1))))
        self.assertEqual((error.number, error.word), (1, "task"))
        self.assert_refused(Late, bench, lambda: put(4, ((), (5, 1), (99, 1))))
        put(4, ((), (4, 1), (4, 1)))
        self.assert_stands(bench, P.with_task(4, ((), (4, 1), (4, 1))), (9, 1), 1, "sooner")

    def test_properties_can_only_be_read(self):
        bench = Bench(P, FAR)
        old = standing(bench)
        for name in ("plan", "day", "version", "news"):
            for value in (getattr(bench, name), None, 1):
                with self.assertRaises(AttributeError):
                    setattr(bench, name, value)
        self.assertEqual(standing(bench), old)

    def test_it_is_not_walked_over(self):
        with self.assertRaises(TypeError):
            list(Bench(P, FAR))

    def test_plans_are_not_changed(self):
        bench = Bench(P, FAR)
        bench.set_workers(1)
        bench.add_pair(0, 1)
        self.assertEqual((P.tasks, P.order, P.workers), (T, (0, 1, 2, 3, 4), 2))
        for plan in some_plans(106, 5, most=3):
            self.assertEqual(Bench(plan, FAR).plan, plan)


if __name__ == "__main__":
    unittest.main()
