"""Promise [4], and what [3] says of its arguments and errors."""

import math
import unittest
from fractions import Fraction

from lesslater.errors import BadFraction, PlanError
from lesslater.fractions import added, fraction, is_below, is_fraction, least_of, middle
from tests.samples import FORTY, no_integers


class ExampleTest(unittest.TestCase):
    def test_example_of_section_1(self):
        found = (fraction(6, -4), is_fraction((2, 4)), is_fraction((0, 1)))
        self.assertEqual(found, ((-3, 2), False, True))


class FractionTest(unittest.TestCase):
    def assert_is_quotient(self, found, top, bottom):
        exact = Fraction(top, bottom)
        self.assertIs(type(found), tuple)
        self.assertEqual(found, (exact.numerator, exact.denominator))
        self.assertEqual([type(part) for part in found], [int, int])
        self.assertIs(is_fraction(found), True)

    def test_small_tops_and_bottoms_of_both_signs(self):
        for top in range(-40, 41):
            for bottom in range(-40, 41):
                if bottom != 0:
                    with self.subTest(top=top, bottom=bottom):
                        self.assert_is_quotient(fraction(top, bottom), top, bottom)

    def test_signs(self):
        self.assertEqual(fraction(6, 4), (3, 2))
        self.assertEqual(fraction(-6, 4), (-3, 2))
        self.assertEqual(fraction(6, -4), (-3, 2))
        self.assertEqual(fraction(-6, -4), (3, 2))

    def test_top_0(self):
        for bottom in (1, -1, 2, -7, FORTY, -FORTY):
            with self.subTest(bottom=bottom):
                self.assertEqual(fraction(0, bottom), (0, 1))

    def test_no_bottom(self):
        for top in (0, 1, -1, 12, FORTY, -FORTY):
            with self.subTest(top=top):
                self.assertEqual(fraction(top), (top, 1))

    def test_integers_of_forty_digits(self):
        prime = 10 ** 20 + 39
        parts = (FORTY, FORTY - 1, 10 ** 39, 2 ** 132, 3 ** 83, 6 ** 51, prime * 12, prime * 30, 1, 7)
        for top in parts:
            for bottom in parts:
                for sign in (1, -1):
                    with self.subTest(top=sign * top, bottom=bottom):
                        self.assert_is_quotient(fraction(sign * top, bottom), sign * top, bottom)
                        self.assert_is_quotient(fraction(top, sign * bottom), top, sign * bottom)
        self.assertEqual(fraction(prime * 12, -prime * 30), (-2, 5))

    def test_neighbours_in_fibonacci_numbers_have_no_common_divisor(self):
        # They take Euclid's steps longest.
        low, high = 1, 1
        while high <= FORTY:
            self.assertEqual(fraction(low, high), (low, high))
            low, high = high, low + high

    def test_arguments_by_name(self):
        self.assertEqual(fraction(top=6, bottom=-4), (-3, 2))
        self.assertEqual(fraction(bottom=-4, top=6), (-3, 2))
        self.assertEqual(fraction(6, bottom=4), (3, 2))
        self.assertEqual(fraction(top=5), (5, 1))


class BadFractionTest(unittest.TestCase):
    def assert_bad(self, place, *arguments, **named):
        with self.assertRaises(BadFraction) as caught:
            fraction(*arguments, **named)
        self.assertIs(type(caught.exception.place), int)
        self.assertEqual(caught.exception.place, place)

    def test_top_that_is_no_integer(self):
        for value in no_integers():
            with self.subTest(value):
                self.assert_bad(0, value)
                self.assert_bad(0, value, 1)
                self.assert_bad(0, value, -3)
                self.assert_bad(0, top=value, bottom=2)

    def test_bottom_that_is_no_integer(self):
        for value in no_integers():
            with self.subTest(value):
                self.assert_bad(1, 0, value)
                self.assert_bad(1, 1, value)
                self.assert_bad(1, -FORTY, value)
                self.assert_bad(1, top=2, bottom=value)

    def test_both_no_integers(self):
        for top in no_integers():
            for bottom in no_integers():
                with self.subTest(top=top, bottom=bottom):
                    self.assert_bad(0, top, bottom)

    def test_bottom_0(self):
        for top in (0, 1, -1, 6, FORTY, -FORTY):
            with self.subTest(top=top):
                self.assert_bad(1, top, 0)
                self.assert_bad(1, top=top, bottom=0)

    def test_top_that_is_no_integer_above_bottom_0(self):
        for value in no_integers():
            with self.subTest(value):
                self.assert_bad(0, value, 0)

    def test_it_is_caught_as_a_plan_error_and_a_value_error(self):
        for kind in (PlanError, ValueError):
            with self.assertRaises(kind):
                fraction(1, 0)


class IsFractionTest(unittest.TestCase):
    def test_small_pairs(self):
        for top in range(-30, 31):
            for bottom in range(-30, 31):
                with self.subTest(top=top, bottom=bottom):
                    told = bottom >= 1 and math.gcd(top, bottom) == 1
                    self.assertIs(is_fraction((top, bottom)), told)

    def test_fractions(self):
        for value in ((0, 1), (1, 1), (-1, 1), (3, 2), (-3, 2), (FORTY, 1), (1, FORTY), (FORTY, FORTY - 1)):
            with self.subTest(value):
                self.assertIs(is_fraction(value), True)

    def test_common_divisors(self):
        for value in ((2, 4), (-2, 4), (0, 2), (6, 3), (FORTY, FORTY), (-FORTY, 3), (10 ** 39, 2 ** 100)):
            with self.subTest(value):
                self.assertIs(is_fraction(value), False)

    def test_bottoms_of_0_and_below(self):
        for value in ((1, 0), (-1, 0), (0, 0), (0, -1), (3, -2), (-3, -2), (1, -FORTY)):
            with self.subTest(value):
                self.assertIs(is_fraction(value), False)

    def test_parts_that_are_no_integers(self):
        for part in no_integers():
            for value in ((part, 1), (1, part), (0, part), (part, 2), (part, part)):
                with self.subTest(value):
                    self.assertIs(is_fraction(value), False)

    def test_lists_and_tuples_of_other_lengths(self):
        for value in ([0, 1], [3, 2], (), (1,), (1, 1, 1), (3, 2, 1), ((3, 2),), ((3, 2), (1, 1))):
            with self.subTest(value):
                self.assertIs(is_fraction(value), False)

    def test_other_kinds(self):
        for value in (*no_integers(), 0, 1, -1, FORTY, "ab", "3/2", {3: 2}, {3: 2, 1: 1}):
            if value != (1, 2):
                with self.subTest(value):
                    self.assertIs(is_fraction(value), False)

    def test_argument_by_name(self):
        self.assertIs(is_fraction(value=(3, 2)), True)
        self.assertIs(is_fraction(value=[3, 2]), False)

    def test_argument_is_not_changed(self):
        value = [[3, 2], {"a": [1]}]
        is_fraction(value)
        self.assertEqual(value, [[3, 2], {"a": [1]}])


class ArithmeticTest(unittest.TestCase):
    PAIRS = [fraction(top, bottom) for top in range(-6, 7) for bottom in (1, 2, 3, 7)] + [
        (FORTY, FORTY - 1), (FORTY - 1, FORTY), (-FORTY, 2), (1, FORTY),
    ]

    def test_pairs_of_fractions(self):
        for one in self.PAIRS:
            for other in self.PAIRS:
                exact = Fraction(*one) + Fraction(*other)
                self.assertEqual(added(one, other), (exact.numerator, exact.denominator))
                self.assertEqual(middle(one, other), ((exact / 2).numerator, (exact / 2).denominator))
                self.assertIs(is_below(one, other), Fraction(*one) < Fraction(*other))

    def test_the_least_one(self):
        self.assertEqual(least_of([(3, 2)]), (3, 2))
        for shift in range(len(self.PAIRS)):
            several = self.PAIRS[shift:] + self.PAIRS[:shift // 2]
            self.assertEqual(Fraction(*least_of(several)), min(Fraction(*pair) for pair in several))


if __name__ == "__main__":
    unittest.main()
