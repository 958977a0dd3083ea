"""Promise 4: fractions, against Python's own; and promise 2 as far as it speaks of them."""

import math
import unittest
from fractions import Fraction

from helper import LARGEST, is_lowest, pair
from wishmart.errors import MartError, NoNumber
from wishmart.fractions import (common_divisor, fraction, greatest, is_fraction, is_whole, least, less, minus,
                                on_one_bottom, over, plus, times, total)

LARGE = [10 ** 59, 10 ** 59 + 1, LARGEST, LARGEST - 1, 2 ** 199, 3 ** 125, 6 ** 77, 7 * 10 ** 58]
POWERS = [2 ** k for k in (1, 2, 3, 10, 31, 32, 63, 64, 198)]
SMALL = list(range(-13, 14))
NUMBERS = SMALL + [sign * each for sign in (1, -1) for each in LARGE + POWERS]

FRACTIONS = sorted({pair(Fraction(top, bottom)) for top in range(-7, 8) for bottom in range(1, 8)})
FRACTIONS += [(sign * top, bottom) for sign in (1, -1) for top, bottom in [
    (LARGEST, 1), (1, LARGEST), (LARGEST, 10 ** 59), (10 ** 59, LARGEST), (LARGEST, LARGEST - 1),
    (2 ** 199, 3 ** 125), (3 ** 125, 2 ** 199), (1, 2 ** 64), (2 ** 64, 1)]]


class FractionCase(unittest.TestCase):
    def assert_lowest(self, told):
        """Just a tuple of two whole numbers in lowest terms, the bottom from 1 on."""
        self.assertTrue(is_lowest(told), told)


class OfTwoNumbersTest(FractionCase):
    def test_told_as_written_out(self):
        for top, bottom, told in [
            (6, 4, (3, 2)), (-6, 4, (-3, 2)), (6, -4, (-3, 2)), (-6, -4, (3, 2)),
            (3, 2, (3, 2)), (1, 3, (1, 3)), (7, 1, (7, 1)), (7, -1, (-7, 1)),
            (0, 1, (0, 1)), (0, 5, (0, 1)), (0, -5, (0, 1)), (5, 5, (1, 1)), (-5, 5, (-1, 1)), (5, -5, (-1, 1)),
            (1024, 64, (16, 1)), (64, 1024, (1, 16)), (2 ** 100, -(2 ** 98), (-4, 1)),
            (LARGEST, LARGEST, (1, 1)), (0, LARGEST, (0, 1)), (0, -LARGEST, (0, 1)),
            (LARGEST, 9, (int("1" * 60), 1)), (9, -LARGEST, (-1, int("1" * 60))),
            (10 ** 59, LARGEST, (10 ** 59, LARGEST)),
        ]:
            with self.subTest(top=top, bottom=bottom):
                self.assertEqual(fraction(top, bottom), told)

    def test_all_pairs(self):
        for top in NUMBERS:
            for bottom in NUMBERS:
                if bottom == 0:
                    continue
                told = fraction(top, bottom)
                self.assert_lowest(told)
                self.assertEqual(told, pair(Fraction(top, bottom)), (top, bottom))

    def test_nought_below_is_refused(self):
        for top in NUMBERS:
            with self.subTest(top=top), self.assertRaises(NoNumber) as caught:
                fraction(top, 0)
            self.assertIs(type(caught.exception), NoNumber)
            self.assertIsInstance(caught.exception, MartError)

    def test_the_same_again(self):
        for top, bottom in [(6, -4), (0, 7), (LARGEST, -9)]:
            self.assertEqual(fraction(top, bottom), fraction(top, bottom))


class ReckoningTest(FractionCase):
    def check(self, function, reckon):
        for one in FRACTIONS:
            for other in FRACTIONS:
                told = function(one, other)
                self.assert_lowest(told)
                self.assertEqual(told, pair(reckon(Fraction(*one), Fraction(*other))), (one, other))
                self.assertEqual(function(one, other), told)

    def test_plus(self):
        self.assertEqual(plus((1, 2), (1, 3)), (5, 6))
        self.assertEqual(plus((1, 6), (1, 3)), (1, 2))
        self.assertEqual(plus((1, 2), (-1, 2)), (0, 1))
        self.assertEqual(plus((0, 1), (-3, 4)), (-3, 4))
        self.check(plus, lambda one, other: one + other)

    def test_minus(self):
        self.assertEqual(minus((1, 2), (1, 3)), (1, 6))
        self.assertEqual(minus((1, 3), (1, 2)), (-1, 6))
        self.assertEqual(minus((3, 4), (3, 4)), (0, 1))
        self.assertEqual(minus((0, 1), (-3, 4)), (3, 4))
        self.check(minus, lambda one, other: one - other)

    def test_times(self):
        self.assertEqual(times((2, 3), (3, 4)), (1, 2))
        self.assertEqual(times((-2, 3), (-3, 2)), (1, 1))
        self.assertEqual(times((0, 1), (-3, 4)), (0, 1))
        self.check(times, lambda one, other: one * other)

    def test_over(self):
        self.assertEqual(over((2, 3), (4, 3)), (1, 2))
        self.assertEqual(over((2, 3), (-4, 3)), (-1, 2))
        self.assertEqual(over((-2, 3), (-2, 3)), (1, 1))
        self.assertEqual(over((0, 1), (-3, 4)), (0, 1))
        for one in FRACTIONS:
            for other in FRACTIONS:
                if other != (0, 1):
                    told = over(one, other)
                    self.assert_lowest(told)
                    self.assertEqual(told, pair(Fraction(*one) / Fraction(*other)), (one, other))

    def test_over_by_nought_is_refused(self):
        for one in FRACTIONS:
            with self.subTest(one=one), self.assertRaises(NoNumber) as caught:
                over(one, (0, 1))
            self.assertIs(type(caught.exception), NoNumber)

    def test_what_was_told_is_handed_in_again(self):
        told, expected = (1, 1), Fraction(1)
        for top, bottom in [(LARGEST, 2 ** 199), (-(3 ** 125), LARGEST - 1), (7, 10 ** 59)] * 3:
            told = minus(times(plus(told, (top, bottom)), (top, bottom)), over(told, (bottom, 1)))
            exact = Fraction(top, bottom)
            expected = (expected + exact) * exact - expected / bottom
            self.assert_lowest(told)
            self.assertEqual(told, pair(expected))


class LessTest(unittest.TestCase):
    def test_told_as_written_out(self):
        for one, other, told in [
            ((1, 3), (1, 2), True), ((1, 2), (1, 3), False), ((1, 2), (1, 2), False),
            ((-1, 2), (-1, 3), True), ((-1, 3), (-1, 2), False), ((-1, 2), (0, 1), True), ((0, 1), (-1, 2), False),
            ((0, 1), (0, 1), False), ((0, 1), (1, LARGEST), True), ((-1, LARGEST), (0, 1), True),
            ((LARGEST - 1, LARGEST), (1, 1), True), ((1, 1), (LARGEST - 1, LARGEST), False),
            ((LARGEST, LARGEST - 1), (LARGEST, LARGEST - 1), False),
            # Alike to the first fifty figures and more, so that a float would not tell them apart.
            ((LARGEST - 1, LARGEST), (LARGEST, LARGEST + 1), True),
        ]:
            with self.subTest(one=one, other=other):
                self.assertIs(less(one, other), told)

    def test_all_pairs(self):
        for one in FRACTIONS:
            for other in FRACTIONS:
                self.assertIs(less(one, other), Fraction(*one) < Fraction(*other), (one, other))


class OfSeveralTest(FractionCase):
    ROWS = [FRACTIONS[at:at + size] for size in (1, 2, 3, 7) for at in range(0, len(FRACTIONS) - size)]

    def test_total(self):
        self.assertEqual(total([]), (0, 1))
        self.assertEqual(total([(1, 2), (1, 3), (1, 6)]), (1, 1))
        for row in self.ROWS:
            self.assert_lowest(total(row))
            self.assertEqual(total(row), pair(sum(Fraction(*part) for part in row)))

    def test_least_and_greatest(self):
        for row in self.ROWS:
            for parts in [row, row[::-1], tuple(row)]:
                self.assertEqual(least(parts), pair(min(Fraction(*part) for part in row)))
                self.assertEqual(greatest(parts), pair(max(Fraction(*part) for part in row)))

    def test_on_one_bottom(self):
        self.assertEqual(on_one_bottom([(1, 4), (5, 6), (2, 1), (0, 1), (-1, 3)]), [3, 10, 24, 0, -4])
        for row in self.ROWS:
            bottom = math.lcm(*[part[1] for part in row])
            self.assertEqual(on_one_bottom(row), [Fraction(*part) * bottom for part in row])


class WhatIsOneTest(unittest.TestCase):
    """Of anything: whether it is a whole number, or a fraction."""

    OTHERS = [True, False, None, "", "1", "12", "(1, 2)", [], [1], [1, 2], (), (1,), (1, 2, 3)]

    def test_whole_numbers(self):
        for number in NUMBERS:
            self.assertIs(is_whole(number), True)
        for thing in self.OTHERS:
            self.assertIs(is_whole(thing), False, thing)

    def test_fractions(self):
        for told in FRACTIONS:
            self.assertIs(is_fraction(told), True, told)
            self.assertIs(is_fraction(list(told)), False, told)

    def test_no_fractions(self):
        wrong = [(2, 4), (0, 2), (0, 0), (1, 0), (1, -1), (-1, -2), (LARGEST, 9), (-4, 2),
                 (True, 1), (1, True), (False, 1), (True, True), (True, 2), (1, 2, 1), ((1, 2), 1), (1, (1, 2))]
        wrong += [(1, thing) for thing in self.OTHERS] + [(thing, 1) for thing in self.OTHERS]
        for thing in wrong + self.OTHERS + NUMBERS:
            self.assertIs(is_fraction(thing), False, thing)

    def test_common_divisor(self):
        for one in NUMBERS:
            for other in NUMBERS:
                if one != 0 or other != 0:
                    self.assertEqual(common_divisor(one, other), math.gcd(one, other))


if __name__ == "__main__":
    unittest.main()
