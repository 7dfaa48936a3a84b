"""Promises [10] and [11], [2] (b), (c) and (d), and what [3] and [9] say of them."""

import unittest
from fractions import Fraction

from lesslater.courses import chains, conditions, courses, next_groups
from lesslater.errors import TooMany
from lesslater.fractions import fraction
from lesslater.lateness import beyond, earliest, is_by, latest, paper, paper_holds
from lesslater.runs import durations_error, whole_end
from tests import reference
from tests.samples import (
    LOOSE, NEAR, P, Q, SIXTY, SIXTY_ONE, T, any_values, grid, is_of_tuples, jumpy_plans, plan_of, renumbered, replaced,
    some_durations, some_plans, stretched,
)

OF_DAYS = (beyond, is_by, paper)
# The paper for P and 9 of which single parts are changed below.
NINE = (9, 1)
PAPER = paper(P, NINE)


def number_of(pair):
    return Fraction(*pair)


def end_of(plan, durations):
    return Fraction(*whole_end(plan, durations))


def end_row(plan, course, sign, day, kind):
    """Return the condition that the end of a course less a day, both times a sign, is of a kind to 0."""
    last = chains(plan, course)[course[-1][0]]
    return (tuple(sign * last.count(number) for number in range(len(plan))), (-sign * day[0], day[1]), kind)


def can_end(plan, sign, day, kind):
    """Return whether any durations have such an end: by elimination, in each course."""
    return any(
        reference.can_be_met(conditions(plan, course) + (end_row(plan, course, sign, day, kind),), len(plan))
        for course in courses(plan)
    )


def longest_chain(plan, at):
    """Return the greatest sum of bounds along forerunners; at is 1 for lows, 2 for highs."""
    def until(number):
        return number_of(plan[number][at]) + max(map(until, plan[number][0]), default=0)

    return max(map(until, range(len(plan))))


def whole_ones(plan):
    """Return all whole beginnings of a plan, possible or not."""
    found, waiting = [], [()]
    while waiting:
        beginning = waiting.pop()
        groups = next_groups(plan, beginning)
        found += [] if groups else [beginning]
        waiting += [(*beginning, group) for group in groups]
    return sorted(found)


def plain_claim(plan, whole):
    """Return the claim that a whole beginning ends by any day behind the highs of its last chain."""
    last = chains(plan, whole)[whole[-1][0]]
    weights = [0] * (len(conditions(plan, whole)) + 1)
    weights[-1] = 1
    for number in last:
        weights[2 * number + 1] = 1
    return (whole, tuple(weights))


def split_claim(plan, claim):
    """Return the claims for all next groups that say the same as a claim."""
    beginning, weights = claim
    found = []
    for group in next_groups(plan, beginning):
        longer = (*beginning, group)
        many = len(conditions(plan, longer)) + (not next_groups(plan, longer))
        found.append((longer, weights + (0,) * (many - len(weights))))
    return tuple(found)


def not_met(call, seed):
    """Return plans whose latest or earliest end is not met."""
    return [plan for plan in jumpy_plans(seed, 150) if call(plan)[1] is None]


class ExampleTest(unittest.TestCase):
    def test_examples_of_section_5(self):
        self.assertEqual(latest(P), ((9, 1), ((2, 1), (2, 1), (2, 1), (2, 1), (5, 1))))
        self.assertEqual(
            (earliest(P)[0], is_by(P, (9, 1)), is_by(P, (17, 2)), latest(Q)[0]), ((7, 1), True, False, (7, 1)),
        )

    def test_the_plan_in_words(self):
        self.assertEqual(latest(NEAR), ((13, 1), None))


class EndsTest(unittest.TestCase):
    def assert_found(self, plan, pair):
        end, found = pair
        if found is not None:
            self.assertIsNone(durations_error(plan, found))
            self.assertEqual(whole_end(plan, found), end)

    def assert_ends(self, plan, low, high):
        for call, told in ((earliest, low), (latest, high)):
            pair = call(plan)
            self.assertEqual(number_of(pair[0]), told)
            self.assertEqual(pair[0], reference.pair_of(number_of(pair[0])))
            self.assert_found(plan, pair)

    def assert_exact(self, plan):
        """Check both ends by elimination: none is beyond them, some come near, and whether some are there."""
        for call, sign in ((latest, 1), (earliest, -1)):
            end, found = call(plan)
            self.assert_found(plan, (end, found))
            self.assertFalse(can_end(plan, sign, end, ">"))
            self.assertIs(can_end(plan, sign, end, "="), found is not None)
            near = reference.pair_of(number_of(end) - sign * Fraction(1, 10 ** 9))
            self.assertTrue(can_end(plan, sign, near, ">"))

    def test_one_task(self):
        self.assertEqual(latest(plan_of([((1, 2), (7, 3))])), ((7, 3), ((7, 3),)))
        self.assertEqual(earliest(plan_of([((1, 2), (7, 3))])), ((1, 2), ((1, 2),)))

    def test_one_worker(self):
        for plan in some_plans(41, 40):
            plan = plan.with_workers(1)
            lows, highs = (tuple(task[at] for task in plan.tasks) for at in (1, 2))
            self.assert_ends(plan, sum(map(number_of, lows)), sum(map(number_of, highs)))
            self.assertEqual((earliest(plan)[1], latest(plan)[1]), (lows, highs))

    def test_as_many_workers_as_tasks(self):
        for plan in some_plans(42, 60, most=3):
            plan = plan.with_workers(3)
            self.assert_ends(plan, longest_chain(plan, 1), longest_chain(plan, 2))
            self.assertIsNotNone(latest(plan)[1])
            self.assertIsNotNone(earliest(plan)[1])

    def test_lows_that_are_highs(self):
        for plan in some_plans(43, 40):
            lows = tuple(task[1] for task in plan.tasks)
            plan = plan_of([(low, low) for low in lows], plan.pairs(), plan.order, plan.workers)
            self.assertEqual(latest(plan), (whole_end(plan, lows), lows))
            self.assertEqual(earliest(plan), latest(plan))

    def test_nothing_drawn_is_later_or_earlier(self):
        for plan in (P, Q, NEAR, SIXTY, *some_plans(44, 40), *jumpy_plans(45, 40)):
            try:
                low, high = number_of(earliest(plan)[0]), number_of(latest(plan)[0])
            except TooMany:
                continue
            for value in some_durations(plan, 6, 40):
                self.assertLessEqual(low, end_of(plan, value))
                self.assertLessEqual(end_of(plan, value), high)

    def test_against_elimination(self):
        for plan in (P, Q, NEAR, *some_plans(46, 12, most=4), *jumpy_plans(47, 16)):
            with self.subTest(tasks=plan.tasks, order=plan.order, workers=plan.workers):
                self.assert_exact(plan)

    def test_a_latest_end_that_is_not_met(self):
        found = not_met(latest, 47)
        self.assertGreater(len(found), 2)
        for plan in found[:6]:
            self.assert_exact(plan)
            end = number_of(latest(plan)[0])
            self.assertNotIn(end, [end_of(plan, value) for value in grid(plan, 4)])
            for many in (1, 10, 10 ** 20):
                near = end - Fraction(1, many)
                self.assertGreater(end_of(plan, beyond(plan, reference.pair_of(near))), near)

    def test_durations_come_near_an_end_that_is_not_met(self):
        # Where task 0 ends just ahead of 2, task 2 is begun, and task 4 waits for it; at 2 both others come first.
        for many in (2, 10, 10 ** 20):
            value = (fraction(2 * many - 1, many), (2, 1), (5, 1), (5, 1), (6, 1))
            self.assertEqual(end_of(NEAR, value), 13 - Fraction(1, many))
        self.assertEqual(end_of(NEAR, ((2, 1), (2, 1), (5, 1), (5, 1), (6, 1))), 12)

    def test_an_earliest_end_that_is_not_met(self):
        found = not_met(earliest, 48)
        self.assertGreater(len(found), 2)
        for plan in found[:6]:
            self.assert_exact(plan)
            end = number_of(earliest(plan)[0])
            self.assertNotIn(end, [end_of(plan, value) for value in grid(plan, 4)])

    def test_the_jump_decides_the_end(self):
        # With task 0 at 2 the long task 4 is begun last; ever so little more, and it is begun at once.
        self.assertEqual(end_of(P, latest(P)[1]), 9)
        self.assertEqual(end_of(P, replaced(latest(P)[1], 0, (2 * 10 ** 20 + 1, 10 ** 20))), 7)
        short = P.with_task(0, ((), (1, 1), (19, 10)))
        self.assertEqual(latest(short)[0], (89, 10))
        long = P.with_task(0, ((), (21, 10), (3, 1)))
        self.assertEqual((latest(long)[0], earliest(long)[0]), ((7, 1), (7, 1)))

    def test_tasks_numbered_anew(self):
        for names in ((4, 3, 2, 1, 0), (2, 0, 1, 4, 3), (1, 4, 0, 2, 3)):
            for plan in (P, Q, NEAR, *jumpy_plans(49, 15)):
                other = renumbered(plan, names)
                for call in (latest, earliest):
                    self.assertEqual(call(other)[0], call(plan)[0])
                    self.assertIs(call(other)[1] is None, call(plan)[1] is None)
                    self.assert_found(other, call(other))

    def test_bounds_some_times_as_long(self):
        for top, bottom in ((7, 1), (3, 5), (10 ** 20 + 1, 10 ** 20)):
            for plan in (P, Q, NEAR, *jumpy_plans(50, 15)):
                other = stretched(plan, top, bottom)
                for call in (latest, earliest):
                    self.assertEqual(number_of(call(other)[0]), number_of(call(plan)[0]) * Fraction(top, bottom))
                    self.assertIs(call(other)[1] is None, call(plan)[1] is None)
                    self.assert_found(other, call(other))


class DaysTest(unittest.TestCase):
    def assert_day(self, plan, day, is_late):
        """Check all that is told of a day, the whole being late for it or not."""
        found, made = beyond(plan, day), paper(plan, day)
        self.assertIs(is_by(plan, day), not is_late)
        if is_late:
            self.assertIsNone(made)
            self.assertIsNone(durations_error(plan, found))
            self.assertGreater(end_of(plan, found), number_of(day))
        else:
            self.assertIsNone(found)
            self.assertTrue(is_of_tuples(made))
            self.assertIs(paper_holds(plan, day, made), True)

    def assert_days(self, plan):
        end = number_of(latest(plan)[0])
        is_met = latest(plan)[1] is not None
        self.assert_day(plan, latest(plan)[0], False)
        for step in (Fraction(1, 10 ** 20), Fraction(1, 3), Fraction(5)):
            self.assert_day(plan, reference.pair_of(end - step), True)
            self.assert_day(plan, reference.pair_of(end + step), False)
        for day in ((0, 1), (-1, 1), (-7, 2), (-(10 ** 30), 1)):
            self.assert_day(plan, day, True)
        for value in some_durations(plan, 7, 4):
            self.assert_day(plan, whole_end(plan, value), end_of(plan, value) < end)
        return is_met

    def test_days_about_the_latest_end(self):
        outcomes = {True: 0, False: 0}
        for plan in (P, Q, NEAR, SIXTY, *some_plans(51, 15, most=4), *jumpy_plans(52, 20), *not_met(latest, 47)):
            with self.subTest(tasks=plan.tasks, order=plan.order, workers=plan.workers):
                outcomes[self.assert_days(plan)] += 1
        self.assertGreater(outcomes[False], 2)
        self.assertGreater(outcomes[True], 20)

    def test_the_latest_end_met_and_not_met(self):
        self.assert_day(P, (9, 1), False)
        self.assert_day(NEAR, (13, 1), False)
        self.assert_day(NEAR, (13 * 10 ** 30 - 1, 10 ** 30), True)

    def test_days_of_a_plan_with_one_task(self):
        plan = plan_of([(2, 3)])
        self.assertEqual(paper(plan, (3, 1)), ((((0,),), (0, 1, 1)),))
        self.assert_day(plan, (3, 1), False)
        self.assert_day(plan, (29, 10), True)


class PaperHoldsTest(unittest.TestCase):
    def assert_paper(self, told, value, plan=P, day=NINE):
        self.assertIs(paper_holds(plan, day, value), told)
        self.assertIs(paper_holds(plan=plan, day=day, value=value), told)

    def assert_each_changed(self, change):
        """Check that a paper with any one claim changed is none; change returns None where it does not apply."""
        many = 0
        for at, claim in enumerate(PAPER):
            changed = change(*claim)
            if changed is not None:
                many += 1
                with self.subTest(at=at):
                    self.assert_paper(False, replaced(PAPER, at, changed))
        self.assertGreater(many, 0)

    def test_papers(self):
        self.assert_paper(True, PAPER)
        for plan in (NEAR, SIXTY, *some_plans(53, 20), *jumpy_plans(54, 20)):
            try:
                day = latest(plan)[0]
            except TooMany:
                continue
            self.assert_paper(True, paper(plan, day), plan, day)

    def test_another_order(self):
        self.assert_paper(True, PAPER[::-1])
        self.assert_paper(True, PAPER[3:] + PAPER[:3])

    def test_weights_some_times_as_large(self):
        for factor in (2, 7, 10 ** 30):
            self.assert_paper(True, tuple(
                (beginning, tuple(factor * weight for weight in weights)) for beginning, weights in PAPER
            ))
        for factor in (0, -1):
            self.assert_each_changed(lambda beginning, weights: (
                beginning, tuple(factor * weight for weight in weights),
            ))

    def test_a_claim_split_into_its_next_groups(self):
        many = 0
        for at, claim in enumerate(PAPER):
            parts = split_claim(P, claim)
            if parts:
                many += 1
                self.assert_paper(True, PAPER[:at] + parts + PAPER[at + 1:])
                self.assert_paper(False, PAPER[:at] + parts[1:] + PAPER[at + 1:])
                self.assert_paper(False, PAPER[:at] + parts[:-1] + PAPER[at + 1:])
        self.assertGreater(many, 5)

    def test_claims_for_whole_beginnings_alone(self):
        claims = PAPER
        while any(split_claim(P, claim) for claim in claims):
            claims = tuple(part for claim in claims for part in (split_claim(P, claim) or (claim,)))
        self.assertEqual(sorted(beginning for beginning, _ in claims), whole_ones(P))
        self.assert_paper(True, claims)

    def test_a_claim_that_is_not_needed(self):
        for at, claim in enumerate(PAPER):
            for part in split_claim(P, claim):
                self.assert_paper(True, PAPER + (part,))
                self.assert_paper(True, (part,) + PAPER)
                wrong = (part[0], (0,) * len(part[1]))
                self.assert_paper(False, PAPER + (wrong,))

    def test_a_claim_left_out(self):
        for at in range(len(PAPER)):
            self.assert_paper(False, PAPER[:at] + PAPER[at + 1:])
        self.assert_paper(False, ())
        self.assert_paper(False, PAPER[:1])

    def test_a_beginning_twice(self):
        for beginning, weights in PAPER:
            self.assert_paper(False, PAPER + ((beginning, weights),))
            self.assert_paper(False, PAPER + ((beginning, tuple(2 * weight for weight in weights)),))

    def test_a_weight_changed(self):
        for at, (beginning, weights) in enumerate(PAPER):
            rows = conditions(P, beginning)
            for place, weight in enumerate(weights):
                is_idle = place < len(rows) and not any(rows[place][0])
                if not is_idle:
                    for other in (weight + 1, weight - 1):
                        claim = (beginning, replaced(weights, place, other))
                        self.assert_paper(False, replaced(PAPER, at, claim))

    def test_weights_too_few_or_too_many(self):
        for more in ((0,), (1,)):
            self.assert_each_changed(lambda beginning, weights: (beginning, weights + more))
            self.assert_each_changed(lambda beginning, weights: (beginning, more + weights))
        self.assert_each_changed(lambda beginning, weights: (beginning, weights[:-1]))
        self.assert_each_changed(lambda beginning, weights: (beginning, weights[1:]))
        self.assert_each_changed(lambda beginning, weights: (beginning, ()))

    def test_weights_below_0(self):
        # Both bounds of task 1 are 2: with -1 at both of them all sums stay as they are.
        for lower in (-1, -5):
            self.assert_each_changed(lambda beginning, weights: (
                beginning, replaced(replaced(weights, 2, weights[2] + lower), 3, weights[3] + lower),
            ) if weights[2] + lower < 0 or weights[3] + lower < 0 else None)

    def test_the_same_above_0(self):
        for at, (beginning, weights) in enumerate(PAPER):
            claim = (beginning, replaced(replaced(weights, 2, weights[2] + 3), 3, weights[3] + 3))
            self.assert_paper(True, replaced(PAPER, at, claim))

    def test_weights_below_0_at_an_equal_one(self):
        below = [
            (beginning, weights) for beginning, weights in PAPER
            for (_, _, kind), weight in zip(conditions(P, beginning), weights) if kind == "=" and weight < 0
        ]
        self.assertGreater(len(below), 0)
        self.assert_paper(True, PAPER)

    def test_a_sum_of_0(self):
        plan = plan_of([(2, 3), (5, 5)])
        first = (((0,), (1,)), (0, 0, 0, 1, 0, 1))
        both = (((0, 1),), (0, 1, 0, 0, 0, 1))
        last = (((1,),), (0, 1, 1, 0, 1))
        self.assert_paper(True, (first, both, last), plan, (5, 1))
        # The sum is 0 now, of conditions none of which is ">".
        for wrong in ((0,) * 6, (0, 0, 1, 1, 0, 0)):
            self.assert_paper(False, ((first[0], wrong), both, last), plan, (5, 1))
        for wrong in ((0,) * 5, (0, 0, 1, 1, 0)):
            self.assert_paper(False, (first, both, (last[0], wrong)), plan, (5, 1))
            self.assert_paper(False, (((), wrong[:4]),), plan, (5, 1))

    def test_a_sum_of_0_at_equal_ones(self):
        # Both end at 2 for certain: that they end together cannot be refuted, that one is first can.
        plan = plan_of([(2, 2), (2, 2)])
        first = (((0,),), (1, 0, 0, 1, 1))
        last = (((1,),), (0, 1, 1, 0, 1))
        both = (((0, 1),), (0, 1, 0, 0, 0, 1))
        self.assert_paper(True, (first, both, last), plan, (2, 1))
        for sign in (1, -1):
            weights = (1, 0, 0, 1, 1, 0) if sign == 1 else (0, 1, 1, 0, -1, 0)
            self.assert_paper(False, (first, (((0, 1),), weights), last), plan, (2, 1))

    def test_a_sum_above_0(self):
        plan = plan_of([(2, 3)])
        self.assert_paper(True, ((((0,),), (0, 1, 1)),), plan, (3, 1))
        self.assert_paper(False, ((((0,),), (1, 1, 0)),), plan, (3, 1))
        self.assert_paper(False, ((((0,),), (0, 1, 1)),), plan, (29, 10))

    def test_bools(self):
        for at, (beginning, weights) in enumerate(PAPER):
            for place, weight in enumerate(weights):
                if weight in (0, 1):
                    claim = (beginning, replaced(weights, place, bool(weight)))
                    self.assert_paper(False, replaced(PAPER, at, claim))
            changed = tuple(tuple(bool(number) if number < 2 else number for number in group) for group in beginning)
            self.assertEqual(changed, beginning)
            self.assert_paper(False, replaced(PAPER, at, (changed, weights)))

    def test_a_beginning_that_is_none(self):
        for wrong in (((2,),), ((1, 0),), ((),), ((0,), (0,)), ((0, 1, 4),), ((5,),), None, 0, "0", (0,), ((0,), None)):
            self.assert_each_changed(lambda beginning, weights: (wrong, weights))
            self.assert_paper(False, PAPER + ((wrong, PAPER[0][1]),))
        self.assert_each_changed(lambda beginning, weights: ((*beginning, ()), weights))

    def test_a_claim_that_is_no_pair(self):
        self.assert_each_changed(lambda beginning, weights: (beginning,))
        self.assert_each_changed(lambda beginning, weights: (beginning, weights, weights))
        self.assert_each_changed(lambda beginning, weights: (weights, beginning))
        self.assert_each_changed(lambda beginning, weights: ())
        for wrong in any_values():
            self.assert_paper(False, PAPER + (wrong,))
            self.assert_paper(False, (wrong,) + PAPER[1:])

    def test_lists_in_the_place_of_tuples(self):
        self.assert_paper(False, list(PAPER))
        self.assert_each_changed(lambda beginning, weights: [beginning, weights])
        self.assert_each_changed(lambda beginning, weights: (list(beginning), weights))
        self.assert_each_changed(lambda beginning, weights: (beginning, list(weights)))
        self.assert_each_changed(lambda beginning, weights: ((*beginning[:-1], list(beginning[-1])), weights))

    def test_other_kinds(self):
        for value in any_values():
            self.assert_paper(False, value)
            self.assert_paper(False, (value,))
            for at in (0, 9, len(PAPER) - 1):
                beginning, weights = PAPER[at]
                for claim in (
                    (value, weights), (beginning, value), (beginning, (value, *weights)),
                    ((*beginning[:-1], value), weights), (beginning, (*weights[:-1], value)),
                ):
                    if claim != PAPER[at]:
                        self.assert_paper(False, replaced(PAPER, at, claim))

    def test_another_day(self):
        for day in ((89, 10), (17, 2), (7, 1), (0, 1), (-9, 1)):
            self.assert_paper(False, PAPER, P, day)
        for day in ((91, 10), (10, 1), (10 ** 30, 1)):
            self.assert_paper(True, PAPER, P, day)

    def test_another_plan(self):
        self.assert_paper(False, PAPER, Q)
        self.assert_paper(False, PAPER, P.with_task(4, ((), (5, 1), (6, 1))))
        self.assert_paper(True, PAPER, P.with_pair(0, 3))

    def test_no_paper_for_a_day_that_is_too_early(self):
        # Whatever is claimed, (b): there are durations that end behind the day.
        for plan in jumpy_plans(55, 10):
            end = number_of(latest(plan)[0])
            made = paper(plan, latest(plan)[0])
            self.assert_paper(False, made, plan, reference.pair_of(end - Fraction(1, 10 ** 6)))

    def test_plans_with_too_many_courses(self):
        for plan in (LOOSE, SIXTY_ONE):
            claims = tuple(plain_claim(plan, whole) for whole in whole_ones(plan))
            self.assert_paper(True, claims, plan, (45, 1))
            self.assert_paper(False, claims[1:], plan, (45, 1))
            self.assert_paper(False, claims, plan, (9, 1))
            self.assert_paper(False, None, plan, (9, 1))


class ConventionsTest(unittest.TestCase):
    def test_too_many_courses(self):
        calls = [
            lambda plan: latest(plan), lambda plan: earliest(plan), lambda plan: beyond(plan, (0, 1)),
            lambda plan: is_by(plan, (100, 1)), lambda plan: paper(plan, (100, 1)), lambda plan: paper(plan, (0, 1)),
        ]
        for plan in (LOOSE, SIXTY_ONE):
            for call in calls:
                with self.assertRaises(TooMany) as caught:
                    call(plan)
                self.assertEqual(caught.exception.limit, 60)
        for call in calls:
            call(SIXTY)

    def test_arguments_by_name(self):
        self.assertEqual((latest(plan=P), earliest(plan=P)), (latest(P), earliest(P)))
        for day in ((9, 1), (17, 2)):
            for call in OF_DAYS:
                self.assertEqual(call(plan=P, day=day), call(P, day))
                self.assertEqual(call(day=day, plan=P), call(P, day))
        self.assertIs(paper_holds(value=PAPER, day=NINE, plan=P), True)

    def test_equal_calls_return_equal_results(self):
        for plan in (P, NEAR):
            other = plan.with_order(plan.order)
            self.assertEqual((latest(plan), earliest(plan)), (latest(other), earliest(other)))
            for day in ((9, 1), (13, 1)):
                for call in OF_DAYS:
                    self.assertEqual(call(plan, day), call(other, day))

    def test_results_are_tuples_at_every_depth(self):
        for plan in (P, NEAR):
            for found in (latest(plan), earliest(plan), beyond(plan, (1, 1)), paper(plan, (13, 1))):
                self.assertTrue(is_of_tuples(found))

    def test_arguments_are_not_changed(self):
        value = [[[0], [1]], {"a": [1]}]
        paper_holds(P, NINE, value)
        paper_holds(P, NINE, tuple(value))
        self.assertEqual(value, [[[0], [1]], {"a": [1]}])
        self.assertEqual((P.tasks, P.order, P.workers), (T, (0, 1, 2, 3, 4), 2))


if __name__ == "__main__":
    unittest.main()
