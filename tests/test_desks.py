"""Promise [19], and what [3] says of it."""

import itertools
import unittest

from lesslater.benches import Bench
from lesslater.courses import courses
from lesslater.desks import Desk
from lesslater.lateness import latest
from lesslater.texts import plan_text
from tests.samples import LOOSE, NEAR, P, Q, SIXTY, any_values, jumpy_plans, plan_of

FAR = (100, 1)


def standing(bench):
    return (bench.plan, bench.day, bench.version, bench.news)


class DeskCase(unittest.TestCase):
    def assert_said(self, desk, line, answer):
        found = desk.say(line)
        self.assertEqual(found, answer)
        self.assertIs(type(found), str)
        self.assertEqual(desk.history[-1], (line if isinstance(line, str) else None, answer))

    def assert_done(self, line, answer, plan, day, version, bench=None):
        """Check what a line does, with blanks ahead, between and behind it."""
        words = line.split(" ")
        for other in (line, f" {line}", f"{line}  ", "  ".join(words), "   " + "   ".join(words) + " "):
            held = Bench(P, FAR) if bench is None else bench()
            self.assert_said(Desk(held), other, answer)
            self.assertEqual((held.plan, held.day, held.version), (plan, day, version))

    def assert_unchanged(self, line, answer, bench):
        held = bench()
        old = standing(held)
        self.assert_said(Desk(held), line, answer)
        self.assertEqual(standing(held), old)


class ExampleTest(unittest.TestCase):
    def test_examples_of_section_11(self):
        self.assertEqual(Desk(Bench(P, (9, 1))).say("latest"), "9 met")
        self.assertEqual(Desk(Bench(P, (9, 1))).say("steady"), "no")
        self.assertEqual(Desk(Bench(P, (9, 1))).say("day 8"), "no Late")


class EditsTest(DeskCase):
    def test_each_line(self):
        self.assert_done("list 0 1 4 2 3", "ok 1", Q, FAR, 1)
        self.assert_done("workers 3", "ok 1", P.with_workers(3), FAR, 1)
        self.assert_done("pair 1 4", "ok 1", P.with_pair(1, 4), FAR, 1)
        self.assert_done("part 0 3", "ok 1", P.without_pair(0, 3), FAR, 1)
        self.assert_done("day 19/2", "ok 1", P, (19, 2), 1)
        self.assert_done("day 9", "ok 1", P, (9, 1), 1)
        self.assert_done("day 99999999999999999999", "ok 1", P, (10 ** 20 - 1, 1), 1)

    def test_undo(self):
        def edited():
            bench = Bench(P, FAR)
            bench.set_workers(1)
            bench.set_workers(3)
            return bench

        self.assert_done("undo", "ok 1", P.with_workers(1), FAR, 1, edited)

    def test_versions(self):
        desk = Desk(Bench(P, FAR))
        for version in range(1, 21):
            self.assertEqual(desk.say("workers 1"), f"ok {version}")
        self.assertEqual(desk.say("workers 1"), "no Full")
        for version in range(19, -1, -1):
            self.assertEqual(desk.say("undo"), f"ok {version}")
        self.assertEqual(desk.say("undo"), "no NothingToUndo")


class QuestionsTest(DeskCase):
    def assert_question(self, line, answer, plan, day=FAR):
        def bench():
            return Bench(plan, day)

        for other in (line, f" {line}", f"{line} ", f"   {line}  "):
            self.assert_unchanged(other, answer, bench)

    def test_latest(self):
        self.assert_question("latest", "9 met", P)
        self.assert_question("latest", "7 met", Q)
        self.assert_question("latest", "13 near", NEAR)
        self.assert_question("latest", "7/3 met", plan_of([((1, 2), (7, 3))]))
        for plan in jumpy_plans(121, 20):
            (top, bottom), found = latest(plan)
            told = str(top) if bottom == 1 else f"{top}/{bottom}"
            self.assert_question("latest", told + (" met" if found else " near"), plan)

    def test_steady(self):
        self.assert_question("steady", "no", P)
        self.assert_question("steady", "yes", Q)
        self.assert_question("steady", "no", NEAR)

    def test_courses(self):
        self.assert_question("courses", "4", P)
        self.assert_question("courses", "60", SIXTY)
        for plan in jumpy_plans(122, 10):
            self.assert_question("courses", str(len(courses(plan))), plan)

    def test_text(self):
        self.assert_question(
            "text", "task 1 3; task 2 2; task 2 2 after 0; task 2 2 after 0; task 5 5; list 0 1 2 3 4; workers 2", P,
        )
        self.assert_question("text", "task 1/2 7/3; list 0; workers 1", plan_of([((1, 2), (7, 3))], workers=1))
        for plan in jumpy_plans(123, 10):
            self.assert_question("text", "; ".join(plan_text(plan).splitlines()), plan)

    def test_behind_edits(self):
        desk = Desk(Bench(P, FAR))
        self.assertEqual([desk.say(line) for line in ("steady", "pair 0 1", "steady", "latest", "courses")], [
            "no", "ok 1", "yes", "7 met", str(len(courses(P.with_pair(0, 1)))),
        ])


class ErrorsTest(DeskCase):
    def test_each_error(self):
        def bench():
            return Bench(P, (9, 1))

        def full():
            held = Bench(P, FAR)
            for _ in range(20):
                held.set_workers(2)
            return held

        for line, answer in (
            ("day 8", "no Late"), ("day 0", "no Late"), ("day 17/2", "no Late"), ("workers 1", "no Late"),
            ("pair 3 4", "no Late"), ("workers 0", "no BadPlan"), ("workers 4", "no BadPlan"),
            ("workers 9", "no BadPlan"), ("list", "no BadPlan"), ("list 0 1 2 3", "no BadPlan"),
            ("list 0 1 2 3 3", "no BadPlan"), ("list 0 1 2 3 4 5", "no BadPlan"), ("list 9", "no BadPlan"),
            ("pair 2 0", "no BadPlan"), ("pair 1 1", "no BadPlan"), ("pair 5 0", "no NoTask"),
            ("pair 0 9", "no NoTask"), ("part 5 0", "no NoTask"), ("part 0 5", "no NoTask"), ("part 0 1", "no NoPair"),
            ("part 3 0", "no NoPair"), ("part 0 0", "no NoPair"), ("undo", "no NothingToUndo"),
        ):
            self.assert_unchanged(line, answer, bench)
        for line in (
            "day 8", "day 0", "workers 1", "workers 9", "list", "list 0 1 2 3 4", "pair 5 5", "part 9 9", "part 0 1",
        ):
            self.assert_unchanged(line, "no Full", full)
        self.assert_unchanged("latest", "9 met", full)
        self.assert_unchanged("day 2/4", "what", full)

    def test_too_many(self):
        self.assert_unchanged("workers 3", "no TooMany", lambda: Bench(LOOSE.with_workers(1), FAR))


class WhatTest(DeskCase):
    def assert_what(self, line):
        def bench():
            held = Bench(P, FAR)
            held.set_workers(2)
            return held

        self.assert_unchanged(line, "what", bench)

    def test_words_too_many_or_too_few(self):
        for line in (
            "workers", "workers 1 1", "pair", "pair 0", "pair 0 3 4", "part", "part 0", "part 0 3 3", "day", "day 9 9",
            "undo 1", "undo undo", "undo 0", "latest 1", "latest latest", "steady 0", "courses 4", "text 1",
            "text text",
        ):
            self.assert_what(line)

    def test_numbers_that_are_none(self):
        for word in ("10", "00", "01", "-1", "+1", "x", "1/2", "1.", "0x1", "1_", "one", "0,", "\t", "0\n"):
            for line in (
                f"list {word}", f"list 0 1 2 3 {word}", f"workers {word}", f"pair {word} 1", f"pair 1 {word}",
                f"part {word} 2", f"part 0 {word}",
            ):
                self.assert_what(line)

    def test_days_that_are_none(self):
        for word in (
            "2/4", "3/1", "1/0", "0/1", "00", "01", "-1", "+9", "9.0", "9/", "/9", "1/2/3", "x", "-0", "0/2",
            "9" * 21, "9/" + "1" * 21,
        ):
            self.assert_what(f"day {word}")

    def test_line_feeds_and_tabs(self):
        for line in (
            "undo\n", "\nundo", "undo\t", "\tundo", "latest\n", "list 0 1 2 3 4\n", "list\n0 1 2 3 4", "workers\t2",
            "workers 2\n", "day 9\n", "undo\nundo", "\n", "\t", "latest\nlatest", " \n ", "text\n", "pair 0\n3",
        ):
            self.assert_what(line)

    def test_empty_lines(self):
        for line in ("", " ", "     "):
            self.assert_what(line)

    def test_other_words(self):
        for line in (
            "what", "ok 1", "Undo", "UNDO", "Latest", "lists 0 1 2 3 4", "list0", "un do", "task 1 3", "after 0",
            "history", "say undo", "0", "9", "0 1 2 3 4", "latest;", "none", "plan", "set_workers 2", "order 0 1 2 3 4",
            "x" * 2000, "undo" * 500, "__init__", "steady?", "pairs 0 3", "version", "news",
        ):
            self.assert_what(line)

    def test_other_kinds(self):
        for value in any_values():
            if type(value) is not str:
                self.assert_what(value)
        for value in (["undo"], ("undo",), {"undo": 1}, b"undo", [["list", 0]]):
            self.assert_what(value)


class HistoryTest(DeskCase):
    def test_at_first(self):
        self.assertEqual(Desk(Bench(P, FAR)).history, ())

    def test_the_last_ten(self):
        desk = Desk(Bench(P, FAR))
        told = []
        lines = ("latest", "x", None, "workers 3", " undo ", "workers 9", 7, "", "courses", ["undo"], "\n")
        for line in itertools.islice(itertools.cycle(lines), 35):
            answer = desk.say(line)
            told.append((line if isinstance(line, str) else None, answer))
            self.assertEqual(desk.history, tuple(told[-10:]))
            self.assertIs(type(desk.history), tuple)
            self.assertEqual({type(pair) for pair in desk.history}, {tuple})

    def test_lines_are_kept_as_they_are(self):
        desk = Desk(Bench(P, FAR))
        for line in ("  latest  ", "pair  0  1 ", "\n\t", ""):
            desk.say(line)
        self.assertEqual([line for line, _ in desk.history], ["  latest  ", "pair  0  1 ", "\n\t", ""])

    def test_an_old_one_does_not_change(self):
        desk = Desk(Bench(P, FAR))
        desk.say("latest")
        old = desk.history
        desk.say("steady")
        self.assertEqual(old, (("latest", "9 met"),))

    def test_two_desks_on_one_bench(self):
        bench = Bench(P, FAR)
        one, other = Desk(bench), Desk(bench=bench)
        self.assertEqual(one.say("workers 3"), "ok 1")
        self.assertEqual(other.say("workers 1"), "ok 2")
        self.assertEqual(one.say(line="undo"), "ok 1")
        self.assertEqual(other.say("latest"), "5 met")
        bench.undo()
        self.assertEqual(one.say("undo"), "no NothingToUndo")
        self.assertEqual(one.history, (("workers 3", "ok 1"), ("undo", "ok 1"), ("undo", "no NothingToUndo")))
        self.assertEqual(other.history, (("workers 1", "ok 2"), ("latest", "5 met")))

    def test_within_tried(self):
        bench = Bench(P, FAR)
        desk = Desk(bench)
        self.assertEqual(bench.tried(lambda held: desk.say("workers 3")), "ok 1")
        self.assertEqual((bench.version, desk.history), (0, (("workers 3", "ok 1"),)))

    def test_it_can_only_be_read(self):
        desk = Desk(Bench(P, FAR))
        desk.say("steady")
        for value in ((), None, desk.history):
            with self.assertRaises(AttributeError):
                desk.history = value
        self.assertEqual(desk.history, (("steady", "no"),))


if __name__ == "__main__":
    unittest.main()
