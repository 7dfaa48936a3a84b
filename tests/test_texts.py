"""Promises [17] and [18], and what [3] says of them."""

import random
import unittest

from lesslater.errors import BadPlan, BadText
from lesslater.plans import Plan
from lesslater.texts import plan_text, read_plan
from tests.samples import LOOSE, NEAR, P, Q, SIXTY, any_values, plan_of, some_plans, stretched

TEXT = "task 1 3\ntask 2 2\ntask 2 2 after 0\ntask 2 2 after 0\ntask 5 5\nlist 0 1 2 3 4\nworkers 2\n"
SMALL = "task 1 3/2\ntask 2 2 after 0\nlist 0 1\nworkers 2\n"
TWENTY = int("9" * 20)


def spoiled(text, chance):
    """Return a text with further blanks, empty lines and lines of blanks, which says the same."""
    lines = []
    for line in text.splitlines():
        lines += chance.choice(([], [""], ["   "], ["", " "]))
        words = line.split(" ")
        blanks = [" " * chance.randint(1, 3) for _ in words]
        lines.append(chance.choice(("", "  ")) + "".join(map("".join, zip(words, blanks))))
    return "\n".join(lines) + chance.choice(("", "\n", "\n\n", "\n  \n "))


class ExampleTest(unittest.TestCase):
    def test_examples_of_section_10(self):
        self.assertEqual(plan_text(P), TEXT)


class PlanTextTest(unittest.TestCase):
    def test_forerunners(self):
        plan = plan_of([(1, 1)] * 4, [(0, 3), (2, 3), (1, 2)], (3, 2, 1, 0), 3)
        self.assertEqual(
            plan_text(plan), "task 1 1\ntask 1 1\ntask 1 1 after 1\ntask 1 1 after 0 2\nlist 3 2 1 0\nworkers 3\n",
        )

    def test_fractions(self):
        plan = plan_of([((1, 2), (3, 2)), ((7, 3), (7, 1)), (5, (11, 2))], workers=1)
        self.assertEqual(plan_text(plan), "task 1/2 3/2\ntask 7/3 7\ntask 5 11/2\nlist 0 1 2\nworkers 1\n")

    def test_long_numbers(self):
        long = 10 ** 30 + 1
        plan = plan_of([((1, long), (long, 10 ** 30)), ((2, 1), (long, 1))])
        self.assertEqual(plan_text(plan), f"task 1/{long} {long}/{10 ** 30}\ntask 2 {long}\nlist 0 1\nworkers 2\n")
        with self.assertRaises(BadText) as caught:
            read_plan(plan_text(plan))
        self.assertEqual(caught.exception.line, 1)

    def test_one_task(self):
        self.assertEqual(plan_text(plan_of([(1, 1)])), "task 1 1\nlist 0\nworkers 2\n")

    def test_by_name(self):
        self.assertEqual(plan_text(plan=P), plan_text(Plan(P.tasks, P.order, P.workers)))


class ReadPlanTest(unittest.TestCase):
    def assert_read(self, text, plan):
        found = read_plan(text)
        self.assertIs(type(found), Plan)
        self.assertEqual(found, plan)
        self.assertEqual(read_plan(value=text), plan)

    def test_texts_of_plans(self):
        chance = random.Random(111)
        for plan in (P, Q, NEAR, SIXTY, LOOSE, *some_plans(112, 60)):
            text = plan_text(plan)
            self.assert_read(text, plan)
            self.assert_read(text[:-1], plan)
            self.assert_read(text + "\n", plan)
            for _ in range(4):
                self.assert_read(spoiled(text, chance), plan)

    def test_plans_of_texts_again(self):
        for text in (TEXT, SMALL):
            self.assertEqual(plan_text(read_plan(text)), text)

    def test_numbers_of_twenty_digits(self):
        for plan in (stretched(P, TWENTY // 5), plan_of([((1, TWENTY), (TWENTY, TWENTY - 1)), (TWENTY, TWENTY)])):
            self.assert_read(plan_text(plan), plan)

    def test_results_hold_tuples_and_integers(self):
        plan = read_plan(SMALL)
        self.assertEqual(plan.tasks, (((), (1, 1), (3, 2)), ((0,), (2, 1), (2, 1))))
        self.assertEqual([type(task) for task in plan.tasks] + [type(plan.order), type(plan.tasks[1][0])], [tuple] * 4)
        self.assertEqual((plan.order, plan.workers), ((0, 1), 2))


class BadTextTest(unittest.TestCase):
    def assert_bad(self, line, text):
        for call in (lambda: read_plan(text), lambda: read_plan(value=text)):
            with self.subTest(text), self.assertRaises(BadText) as caught:
                call()
            self.assertEqual(caught.exception.line, line)
            self.assertIs(type(caught.exception.line), int)

    def assert_line(self, wrong, at, text=SMALL):
        """Check that a text with a wrong line in the place of another one is wrong there, wherever the line stands."""
        lines = text.splitlines()
        lines[at - 1] = wrong
        self.assert_bad(at, "\n".join(lines) + "\n")
        self.assert_bad(at, "\n".join(lines))
        self.assert_bad(at, "\n".join(lines[:at]))
        self.assert_bad(at, "\n".join(lines[:at] + ["what", "task"]))
        self.assert_bad(at + 2, "\n \n" + "\n".join(lines))
        self.assert_bad(2 * at, "\n" + "\n\n".join(lines))

    def test_no_string(self):
        for value in (*any_values(), b"task", TEXT.splitlines(), (TEXT,), [TEXT], {TEXT: 1}):
            if type(value) is not str:
                self.assert_bad(0, value)

    def test_strings_that_are_no_texts(self):
        for value in ("1", "0", "a\n\tb ~", "x" * 2000, "\t", "task", "plan"):
            self.assert_bad(1, value)

    def test_texts_that_end_too_early(self):
        for text in (TEXT, SMALL):
            lines = text.splitlines()
            for many in range(len(lines)):
                for tail in ("", "\n", "\n\n", "\n   \n"):
                    self.assert_bad(-1, "\n".join(lines[:many]) + tail)
        for text in ("", " ", "\n", "\n\n \n", "task 1 1", "task 1 1\nlist", "task 1 1\nlist 0\n"):
            self.assert_bad(-1, text)

    def test_no_task_line(self):
        self.assert_bad(1, "list 0 1\nworkers 2\n")
        self.assert_bad(1, "list\nworkers 2\n")
        self.assert_bad(1, "workers 2\n")
        self.assert_bad(3, "\n \nlist 0\ntask 1 1\nworkers 1\n")

    def test_six_task_lines(self):
        self.assert_bad(6, "task 1 1\n" * 6 + "list 0 1 2 3 4 5\nworkers 2\n")
        self.assert_bad(12, "\ntask 1 1\n" * 7)
        self.assert_bad(-1, "task 1 1\n" * 5)
        self.assertEqual(len(read_plan("task 1 1\n" * 5 + "list 0 1 2 3 4\nworkers 2\n")), 5)

    def test_lines_in_another_order(self):
        self.assert_bad(1, "list 0 1\ntask 1 1\ntask 1 1\nworkers 2\n")
        self.assert_bad(3, "task 1 1\nlist 0 1\ntask 1 1\nworkers 2\n")
        self.assert_bad(3, "task 1 1\nlist 0\nlist 0\nworkers 2\n")
        self.assert_bad(2, "task 1 1\nworkers 2\nlist 0\n")
        self.assert_bad(1, "workers 2\ntask 1 1\nlist 0\n")

    def test_something_behind_the_workers(self):
        for line in ("workers 2", "task 1 1", "list 0 1", "x", "\t", "#"):
            self.assert_bad(5, SMALL + line)
            self.assert_bad(5, SMALL + line + "\n")
            self.assert_bad(7, SMALL + "\n  \n" + line)
            self.assert_bad(5, SMALL + line + "\nworkers 2\nx\n")

    def test_words_of_a_task(self):
        for wrong in (
            "task", "task 1", "task 1 3 0", "task 1 3 1", "task 1 3 3", "task 1 3 before 0", "task 1 3 after",
            "task 1 3 after x", "task 1 3 after 0 x", "task 1 3 after 0 after 1", "task 1 3 0 after", "task after 0",
            "task 1 after 0", "tasks 1 3", "Task 1 3", "TASK 1 3", "tas 1 3", "task1 3", "task 1,3", "1 3", "x 1 3",
            "task 1 3 After 0", "task 1 3 after 0,1", "task 1 3 after 00", "task 1 3 after 10", "task 1 3 after -1",
            "task 1 3 after +1", "task 1 3 after 1/2", "task 1 3 after 0/1",
        ):
            self.assert_line(wrong, 1)
            self.assert_line(wrong, 2)

    def test_tabs(self):
        for wrong in ("task\t1 3", "task 1\t3", "\ttask 1 3", "task 1 3\t", "task 1 3 \t", "\t", "task 1 3 after\t0"):
            self.assert_line(wrong, 1)
        self.assert_line("list\t0 1", 3)
        self.assert_line("workers 2\t", 4)

    def test_fractions(self):
        for wrong in (
            "0", "00", "01", "007", "-1", "+1", "2/4", "3/1", "1/1", "1/0", "0/1", "0/2", "1/02", "01/2", "-1/2",
            "1/-2", "+1/2", "1/+2", "1/2/3", "1//2", "/2", "1/", "/", "x", "1.5", "1e3", "1_0", "0x1", "1/x", "6/3",
            "10/5", "(1,2)",
            "1" * 21, "1/" + "1" * 21, "1" * 21 + "/2", "1" + "0" * 20,
        ):
            self.assert_line(f"task {wrong} 3", 1)
            self.assert_line(f"task 1 {wrong}", 1)
            self.assert_line(f"task 1 {wrong} after 0", 2)

    def test_right_fractions(self):
        for right, told in (
            ("1", (1, 1)), ("10", (10, 1)), ("3/2", (3, 2)), ("10/3", (10, 3)), ("9" * 20, (TWENTY, 1)),
            ("9" * 20 + "/2", (TWENTY, 2)), ("1" + "0" * 19, (10 ** 19, 1)),
        ):
            plan = read_plan(f"task {right} {right}\nlist 0\nworkers 1")
            self.assertEqual(plan[0], ((), told, told))

    def test_words_of_a_list(self):
        for wrong in (
            "list 0 x", "list x", "list 0 1 after", "list 00 1", "list 0 01", "list 10", "list -1 0", "list +0 1",
            "list 0,1", "list 0/1", "lists 0 1", "List 0 1", "list0 1", "0 1", "after 0 1", "x", "list 0 1 2 3 4 55",
        ):
            self.assert_line(wrong, 3)

    def test_words_of_the_workers(self):
        for wrong in (
            "workers", "workers 2 2", "workers x", "workers 02", "workers 10", "workers -1", "workers +2",
            "workers 2/1", "worker 2", "Workers 2", "workers2", "2", "x", "workers 2 x", "workers two",
        ):
            self.assert_line(wrong, 4)

    def test_the_first_wrong_line(self):
        self.assert_bad(1, "x\ny\nz")
        self.assert_bad(2, "task 1 1\ntask\nlist x\nworkers x\nx")
        self.assert_bad(3, "task 1 1\ntask 1 1\nlist x\nworkers x\nx")
        self.assert_bad(4, "task 1 1\ntask 1 1\nlist\nworkers x\nx")
        self.assert_bad(5, "task 1 1\ntask 1 1\nlist\nworkers 0\nx")

    def test_lines_come_ahead_of_plans(self):
        # There is no such plan either.
        self.assert_bad(3, "task 3 1\ntask 1 1 after 1\nlist x\nworkers 9\n")
        self.assert_bad(-1, "task 3 1\ntask 1 1 after 1\nlist 7\n")


class BadPlanTest(unittest.TestCase):
    def assert_bad_plan(self, number, word, text):
        with self.subTest(text), self.assertRaises(BadPlan) as caught:
            read_plan(text)
        self.assertEqual((caught.exception.number, caught.exception.word), (number, word))

    def test_right_lines_that_make_no_plan(self):
        end = "list 0 1\nworkers 2\n"
        self.assert_bad_plan(0, "forerunners", "task 1 1 after 0\ntask 1 1\n" + end)
        self.assert_bad_plan(1, "forerunners", "task 1 1\ntask 1 1 after 0 0\n" + end)
        self.assert_bad_plan(1, "forerunners", "task 1 1\ntask 1 1 after 2\n" + end)
        self.assert_bad_plan(1, "forerunners", "task 1 1\ntask 1 1 after 9\n" + end)
        self.assert_bad_plan(2, "forerunners", "task 1 1\ntask 1 1\ntask 1 1 after 1 0\nlist 0 1 2\nworkers 1")
        self.assert_bad_plan(1, "high", "task 1 1\ntask 3/2 1\n" + end)
        self.assert_bad_plan(0, "high", "task 4/3 5/4\ntask 3/2 1\n" + end)
        self.assert_bad_plan(None, "ring", "task 1 1 after 1\ntask 1 1 after 0\n" + end)
        for numbers in ("", " 0", " 0 0", " 0 1 1", " 0 2", " 1 0 2", " 9"):
            self.assert_bad_plan(None, "order", f"task 1 1\ntask 1 1\nlist{numbers}\nworkers 2\n")
            self.assert_bad_plan(None, "order", f"task 1 1\ntask 1 1\nlist{numbers}\nworkers 0\n")
        for workers in (0, 4, 5, 9):
            self.assert_bad_plan(None, "workers", f"task 1 1\ntask 1 1\nlist 1 0\nworkers {workers}\n")


if __name__ == "__main__":
    unittest.main()
