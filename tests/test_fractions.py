"""Whole numbers and fractions, as [2] tells them."""

import fractions as pythons
import math
import unittest

from foreverrows.fractions import (
    common_number,
    common_shares,
    fraction,
    fraction_less,
    fraction_order,
    fraction_sum,
    fraction_times,
    in_least_numbers,
    is_whole,
)
from tests.helper import chance, check_own

GREAT = 10 ** 100 - 1
NUMBERS = [0, 1, -1, 2, -2, 6, -9, 12, 35, -100, 10 ** 30, -(10 ** 30) + 7, GREAT, -GREAT]


def told(value):
    return (value.numerator, value.denominator)


class FractionsTest(unittest.TestCase):

    def pairs(self):
        lot = chance(3)
        pairs = [(one, other) for one in NUMBERS for other in NUMBERS]
        return pairs + [(lot.randint(-60, 60), lot.randint(-60, 60)) for time in range(300)]

    def test_a_truth_is_no_whole_number(self):
        for thing in NUMBERS:
            self.assertIs(True, is_whole(thing))
        for thing in (True, False, None, "1", [1], (1,), 1.0):
            self.assertIs(False, is_whole(thing))

    def test_common_number(self):
        for one, other in self.pairs():
            self.assertEqual(math.gcd(one, other), common_number(one, other))

    def test_common_shares(self):
        for one, other in self.pairs():
            common, s, t = common_shares(one, other)
            self.assertEqual(math.gcd(one, other), common)
            self.assertEqual(common, s * one + t * other)

    def test_nothing_of_the_other_is_taken_where_the_one_divides_it(self):
        self.assertEqual((3, 1, 0), common_shares(3, 12))
        self.assertEqual((3, -1, 0), common_shares(-3, 12))
        self.assertEqual((3, 1, 0), common_shares(3, 3))
        self.assertEqual((5, 1, 0), common_shares(5, 0))

    def test_lowest_terms_and_a_bottom_from_one_on(self):
        self.assertEqual((2, 3), fraction(4, 6))
        self.assertEqual((-2, 3), fraction(4, -6))
        self.assertEqual((2, 3), fraction(-4, -6))
        self.assertEqual((0, 1), fraction(0, -7))
        self.assertEqual((-5, 1), fraction(10, -2))
        for top, bottom in self.pairs():
            if bottom != 0:
                self.assertEqual(told(pythons.Fraction(top, bottom)), fraction(top, bottom))

    def test_least_numbers(self):
        self.assertEqual([2, -3, 0], in_least_numbers([12, -18, 0]))
        self.assertEqual([-1], in_least_numbers([-GREAT]))
        self.assertEqual([1, GREAT], in_least_numbers([GREAT, GREAT * GREAT]))
        self.assertEqual([], in_least_numbers([]))
        self.assertEqual([6, 10, 15], check_own(self, in_least_numbers, [6, 10, 15]))

    def test_order_of_near_ones(self):
        self.assertEqual(1, fraction_order((1, 2), (1, 3)))
        self.assertEqual(-1, fraction_order((1, 3), (1, 2)))
        self.assertEqual(1, fraction_order((-1, 3), (-1, 2)))
        self.assertEqual(-1, fraction_order((GREAT - 1, GREAT), (1, 1)))

    def test_sum_difference_product_and_order(self):
        values = [pythons.Fraction(top, bottom) for top, bottom in self.pairs()[::5] if bottom != 0]
        for one, other in zip(values, values[1:] + values[:1]):
            self.assertEqual(told(one + other), fraction_sum(told(one), told(other)))
            self.assertEqual(told(one - other), fraction_less(told(one), told(other)))
            self.assertEqual(told(one * other), fraction_times(told(one), told(other)))
            self.assertEqual((one > other) - (one < other), fraction_order(told(one), told(other)))
            self.assertEqual(0, fraction_order(told(one), told(one)))


if __name__ == "__main__":
    unittest.main()
