"""Point 2: fractions in lowest terms, bottom from 1 on."""

import fractions
import itertools
import math
import unittest

from findcourt.fractions import common_bottom, fraction_of, greatest_divisor, is_less, multiplied, sum_of, tops_over
from helpers import FAR

NUMBERS = [-FAR, -60, -7, -2, -1, 0, 1, 2, 3, 12, 60, 128, FAR - 1, FAR, 2 ** 190 * 3 ** 20, 2 ** 100 * 5 ** 30]
FRACTIONS = [fractions.Fraction(top, bottom) for top in NUMBERS for bottom in (1, 2, 7, 60, FAR, 2 ** 90 * 3 ** 40)]


def pair(fraction):
    return (fraction.numerator, fraction.denominator)


class FractionCase(unittest.TestCase):
    def look_at_fraction(self, told, top, bottom):
        self.assertEqual(told, pair(fractions.Fraction(top, bottom)))
        self.assertIs(type(told), tuple)
        self.assertGreaterEqual(told[1], 1)
        self.assertEqual(math.gcd(told[0], told[1]), 1)
        for number in told:
            self.assertIs(type(number), int)


class Made(FractionCase):
    def test_lowest_terms(self):
        self.assertEqual(fraction_of(6, 4), (3, 2))
        self.assertEqual(fraction_of(4, 2), (2, 1))
        self.assertEqual(fraction_of(3, 7), (3, 7))
        self.assertEqual(fraction_of(0, 5), (0, 1))
        self.assertEqual(fraction_of(0, -5), (0, 1))
        self.assertEqual(fraction_of(-6, 4), (-3, 2))

    def test_the_bottom_is_from_1_on(self):
        self.assertEqual(fraction_of(6, -4), (-3, 2))
        self.assertEqual(fraction_of(-6, -4), (3, 2))
        self.assertEqual(fraction_of(1, -1), (-1, 1))

    def test_of_all_these(self):
        for top, bottom in itertools.product(NUMBERS, repeat=2):
            if bottom != 0:
                self.look_at_fraction(fraction_of(top, bottom), top, bottom)
        for top, bottom in itertools.product(range(-30, 31), range(1, 31)):
            self.look_at_fraction(fraction_of(top, bottom), top, bottom)

    def test_far_beyond_small_numbers(self):
        self.assertEqual(fraction_of(FAR * 6, FAR * 4), (3, 2))
        self.assertEqual(fraction_of(3 ** 900, 3 ** 899 * 2), (3, 2))
        self.assertEqual(fraction_of(FAR, FAR + 1), (FAR, FAR + 1))

    def test_no_fraction_has_the_bottom_0(self):
        for top in (0, 1, -1, FAR):
            with self.assertRaises(ZeroDivisionError):
                fraction_of(top, 0)

    def test_greatest_divisor(self):
        for one, other in itertools.product(NUMBERS, repeat=2):
            self.assertEqual(greatest_divisor(one, other), math.gcd(one, other))


class Reckoned(FractionCase):
    def test_multiplied(self):
        self.assertEqual(multiplied((2, 3), (3, 4)), (1, 2))
        self.assertEqual(multiplied((0, 1), (3, 4)), (0, 1))
        for one, other in itertools.product(FRACTIONS, repeat=2):
            self.look_at_fraction(multiplied(pair(one), pair(other)), *pair(one * other))

    def test_is_less(self):
        self.assertIs(is_less((1, 3), (1, 2)), True)
        self.assertIs(is_less((1, 2), (1, 2)), False)
        self.assertIs(is_less((1, 2), (1, 3)), False)
        for one, other in itertools.product(FRACTIONS, repeat=2):
            self.assertIs(is_less(pair(one), pair(other)), one < other)

    def test_sum_of(self):
        self.assertEqual(sum_of([]), (0, 1))
        self.assertEqual(sum_of([(2, 3)]), (2, 3))
        self.assertEqual(sum_of([(1, 2), (1, 3), (1, 6)]), (1, 1))
        handed_in = [pair(one) for one in FRACTIONS]
        self.assertEqual(sum_of(handed_in), pair(sum(FRACTIONS)))
        self.assertEqual(handed_in, [pair(one) for one in FRACTIONS])
        self.assertEqual(sum_of([(1, 2), (-1, 2)]), (0, 1))
        for one, other in itertools.product(FRACTIONS, repeat=2):
            self.look_at_fraction(sum_of([pair(one), pair(other)]), *pair(one + other))

    def test_over_one_bottom(self):
        self.assertEqual(common_bottom([]), 1)
        self.assertEqual(common_bottom([(1, 4), (5, 6), (2, 1)]), 12)
        self.assertEqual(tops_over(12, [(1, 4), (5, 6), (2, 1), (0, 1)]), [3, 10, 24, 0])
        self.assertEqual(common_bottom([pair(one) for one in FRACTIONS]),
                         math.lcm(*[one.denominator for one in FRACTIONS]))


if __name__ == "__main__":
    unittest.main()
