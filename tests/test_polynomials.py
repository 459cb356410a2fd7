"""Points [30] and, of the wide polynomial, [31], and [2] of the same functions."""

import fractions
import math
import unittest

from foreverrows.corners import determinant
from foreverrows.polynomials import common_part, roots_between, wide_polynomial
from tests.helper import chance, check_own, table_by_chance

GREAT = 10 ** 99 + 7


def times(one, other):
    made = [0] * (len(one) + len(other) - 1)
    for i, x in enumerate(one):
        for j, y in enumerate(other):
            made[i + j] += x * y
    return made


def product(*factors):
    made = [1]
    for factor in factors:
        made = times(made, factor)
    return made


def rest_of(one, other):
    """What is left where the first is divided by the second, with fractions."""
    one = [fractions.Fraction(number) for number in one]
    while len(one) >= len(other):
        share = one[-1] / other[-1]
        for at in range(1, len(other) + 1):
            one[-at] -= share * other[-at]
        one.pop()
    while one and one[-1] == 0:
        one.pop()
    return one


def right_part(one, other):
    """The common part by divisions with fractions."""
    while other:
        one, other = other, rest_of(one, other)
    one = [fractions.Fraction(number) for number in one]
    bottoms = math.lcm(*[number.denominator for number in one])
    whole = [int(number * bottoms) for number in one]
    common = math.gcd(*whole)
    return [number // (common if whole[-1] > 0 else -common) for number in whole]


def polynomial_by_chance(lot, length, most):
    last = lot.choice([-1, 1]) * lot.randint(1, most)
    return [lot.randint(-most, most) for number in range(length - 1)] + [last]


class CommonPartTest(unittest.TestCase):

    def check_part(self, one, other):
        part = check_own(self, common_part, one, other)
        self.assertEqual(right_part(one, other), part)
        self.assertGreater(part[-1], 0)
        self.assertEqual(1, math.gcd(*part))
        self.assertEqual([], rest_of(one, part))
        self.assertEqual([], rest_of(other, part))
        self.assertEqual(part, common_part(other, one))
        return part

    def test_ordinary_ones(self):
        self.assertEqual([1, 1], self.check_part([-1, 0, 1], [1, 2, 1]))
        self.assertEqual([-1, 2], self.check_part(product([-1, 2], [3, 1]), product([-1, 2], [5, 7])))
        self.assertEqual([1, 0, 1], self.check_part([-1, 0, 0, 0, 1], [2, 0, 2]))

    def test_one_number(self):
        for one in ([1], [-1], [6], [-GREAT]):
            self.assertEqual([1], self.check_part(one, [4]))
            self.assertEqual([1], self.check_part(one, [6, 12]))
            self.assertEqual([1], self.check_part([0, 0, 6], one))

    def test_the_same_twice(self):
        self.assertEqual([2, 3], self.check_part([-4, -6], [-4, -6]))
        self.assertEqual([-2, 3], self.check_part([4, -6], [4, -6]))
        self.assertEqual([0, 0, 0, 1], self.check_part([0, 0, 0, -7], [0, 0, 0, 0, 14]))

    def test_common_roots_taken_several_times(self):
        one = product([-1, 1], [-1, 1], [-1, 1], [2, 3], [2, 3])
        other = product([-1, 1], [-1, 1], [2, 3], [2, 3], [2, 3], [7, 1])
        self.assertEqual(product([-1, 1], [-1, 1], [2, 3], [2, 3]), self.check_part(one, other))
        power = product(*[[-1, 1]] * 12)
        self.assertEqual(13, len(power))
        self.assertEqual(product(*[[-1, 1]] * 11), self.check_part(power, [at * x for at, x in enumerate(power)][1:]))

    def test_no_common_root(self):
        self.assertEqual([1], self.check_part([1, 1], [2, 1]))
        self.assertEqual([1], self.check_part([2, 4], [6, 3]))
        self.assertEqual([1], self.check_part([1] + [0] * 11 + [1], [1, 1] + [0] * 10 + [3]))

    def test_one_divides_the_other(self):
        one = product([1, 2, -3], [5, 0, 1])
        self.assertEqual([5, 0, 1], self.check_part(one, [-10, 0, -2]))
        self.assertEqual([5, 0, 1], self.check_part([-10, 0, -2], one))

    def test_many_ones(self):
        lot = chance(131)
        lengths = set()
        for time in range(250):
            common = polynomial_by_chance(lot, lot.randint(1, 6), lot.choice([1, 3, 50]))
            one = times(common, polynomial_by_chance(lot, lot.randint(1, 8), lot.choice([1, 3, 50])))
            other = times(common, polynomial_by_chance(lot, lot.randint(1, 8), lot.choice([1, 3, 50])))
            lengths.add(len(one))
            self.check_part(one, other)
        self.assertEqual(set(range(1, 14)), lengths)

    def test_numbers_of_many_figures(self):
        lot = chance(132)
        for length in (1, 2, 5, 9, 13):
            one = polynomial_by_chance(lot, 13, GREAT)
            self.check_part(one, polynomial_by_chance(lot, length, GREAT))
        common = polynomial_by_chance(lot, 7, 10 ** 45)
        one = times(common, polynomial_by_chance(lot, 7, 10 ** 45))
        other = times(common, polynomial_by_chance(lot, 6, 10 ** 45))
        self.assertEqual(7, len(self.check_part(one, other)))


class Roots:
    """A polynomial with known roots: fractions, roots of whole numbers and their negatives, and some that are none."""

    def __init__(self, plain, squares, others):
        self.plain = plain
        self.squares = squares
        factors = [[-top, bottom] for top, bottom in plain] + [[-square, 0, 1] for square in squares]
        self.polynomial = product(*factors, *others)

    def between(self, low, high):
        low, high = fractions.Fraction(*low), fractions.Fraction(*high)
        found = {fractions.Fraction(*root) for root in self.plain}
        count = len([root for root in found if low < root <= high])
        for square in set(self.squares):
            count += below_root(low, square) and not below_root(high, square)
            count += below_root(-high, square) and not below_root(-low, square)
        return count


def below_root(value, square):
    """Whether it lies below the root of a number that is no square."""
    return value < 0 or value * value < square


class RootsTest(unittest.TestCase):

    def test_at_the_ends(self):
        polynomial = product([-1, 2], [-2, 1])
        self.assertEqual(0, roots_between(polynomial, (1, 2), (1, 1)))
        self.assertEqual(1, roots_between(polynomial, (0, 1), (1, 2)))
        self.assertEqual(1, roots_between(polynomial, (1, 2), (2, 1)))
        self.assertEqual(2, roots_between(polynomial, (0, 1), (2, 1)))
        self.assertEqual(2, roots_between(polynomial, (49, 100), (201, 100)))
        self.assertEqual(0, roots_between(polynomial, (2, 1), (GREAT, 1)))
        self.assertEqual(0, roots_between(polynomial, (-GREAT, 1), (0, 1)))

    def test_at_the_ends_taken_several_times(self):
        polynomial = product([-1, 2], [-1, 2], [-1, 2], [-2, 1], [-2, 1])
        self.assertEqual(0, roots_between(polynomial, (1, 2), (1, 1)))
        self.assertEqual(1, roots_between(polynomial, (0, 1), (1, 2)))
        self.assertEqual(1, roots_between(polynomial, (1, 2), (2, 1)))
        self.assertEqual(2, roots_between(polynomial, (0, 1), (2, 1)))

    def test_without_roots(self):
        for polynomial in ([5], [-5], [1, 0, 1], [1, 1, 1], [-1, 0, -2, 0, -1], [GREAT]):
            self.assertEqual(0, check_own(self, roots_between, polynomial, (-100, 1), (100, 1)))

    def test_of_powers_of_x(self):
        for many in range(1, 13):
            self.assertEqual(1, roots_between([0] * many + [-3], (-1, 1), (1, 1)))
            self.assertEqual(1, roots_between([0] * many + [-3], (-1, 1), (0, 1)))
            self.assertEqual(0, roots_between([0] * many + [-3], (0, 1), (1, 1)))

    def test_twelve_roots(self):
        made = Roots([(root, 3) for root in range(-6, 6)], [], [])
        self.assertEqual(13, len(made.polynomial))
        self.assertEqual(12, roots_between(made.polynomial, (-7, 3), (5, 3)))
        self.assertEqual(11, roots_between(made.polynomial, (-2, 1), (5, 3)))
        self.assertEqual(11, roots_between(made.polynomial, (-7, 3), (4, 3)))

    def test_roots_that_are_no_fractions(self):
        self.assertEqual(1, roots_between([-2, 0, 1], (141421356, 10 ** 8), (141421357, 10 ** 8)))
        self.assertEqual(0, roots_between([-2, 0, 1], (141421357, 10 ** 8), (2, 1)))
        self.assertEqual(1, roots_between([2, 0, -1], (-2, 1), (0, 1)))

    def test_two_roots_close_together(self):
        one, other = (GREAT, GREAT + 1), (GREAT + 1, GREAT + 2)
        polynomial = product([-one[0], one[1]], [-other[0], other[1]])
        self.assertEqual(2, roots_between(polynomial, (0, 1), (1, 1)))
        self.assertEqual(1, roots_between(polynomial, one, other))
        self.assertEqual(1, roots_between(polynomial, (0, 1), one))
        self.assertEqual(0, roots_between(polynomial, other, (1, 1)))

    def test_known_roots(self):
        lot = chance(133)
        lengths = set()
        for time in range(300):
            plain = [(lot.randint(-4, 4), lot.randint(1, 3)) for root in range(lot.randint(0, 5))]
            squares = [lot.choice([2, 3, 5]) for root in range(lot.randint(0, 2))]
            others = lot.sample([[-1], [7], [1, 0, 1], [1, 1, 1], [-3], [2, -1, 1]], lot.randint(0, 2))
            made = Roots(plain + plain[:lot.randint(0, 1)], squares, others)
            lengths.add(len(made.polynomial))
            for turn in range(4):
                low = fractions.Fraction(lot.randint(-13, 12), lot.randint(1, 4))
                high = low + fractions.Fraction(lot.randint(1, 20), lot.randint(1, 4))
                ends = (low.numerator, low.denominator), (high.numerator, high.denominator)
                self.assertEqual(made.between(*ends), check_own(self, roots_between, made.polynomial, *ends))
        self.assertGreater(len(lengths), 9)

    def test_parts_together(self):
        """The roots above a fraction up to a third one are those up to a second one and those above it."""
        lot = chance(134)
        for time in range(60):
            polynomial = polynomial_by_chance(lot, lot.randint(1, 13), lot.choice([2, 9, GREAT]))
            ends = sorted({fractions.Fraction(lot.randint(-30, 30), 10) for end in range(6)})
            told = [(end.numerator, end.denominator) for end in ends]
            parts = [roots_between(polynomial, low, high) for low, high in zip(told, told[1:])]
            self.assertEqual(sum(parts), roots_between(polynomial, told[0], told[-1]))
            # Where the sign is another one, an odd number of roots lies between, if none is taken twice.
            if right_part(polynomial, [at * x for at, x in enumerate(polynomial)][1:]) == [1]:
                for low, high, count in zip(ends, ends[1:], parts):
                    values = [sum([x * end ** at for at, x in enumerate(polynomial)]) for end in (low, high)]
                    if 0 not in values:
                        self.assertEqual((values[0] > 0) != (values[1] > 0), count % 2 == 1)


class WideTest(unittest.TestCase):

    def check_wide(self, table):
        told = check_own(self, wide_polynomial, table)
        self.assertEqual(len(table) + 1, len(told))
        self.assertEqual(1, told[-1])
        for x in range(-3, len(table) + 2):
            grid = [[x * (i == j) - entry for j, entry in enumerate(row)] for i, row in enumerate(table)]
            self.assertEqual(determinant(grid), sum([c * x ** power for power, c in enumerate(told)]))
        return told

    def test_ordinary_ones(self):
        self.assertEqual([-1, -1, 1], self.check_wide([[1, 1], [1, 0]]))
        self.assertEqual([-40, 1], self.check_wide([[40]]))
        self.assertEqual([0, 1], self.check_wide([[0]]))
        self.assertEqual([0, 0, 0, 1], self.check_wide([[0, 1, 2], [0, 0, 3], [0, 0, 0]]))

    def test_many_tables(self):
        lot = chance(135)
        sizes = set()
        for time in range(120):
            table = table_by_chance(lot)
            self.check_wide(table)
            sizes.add(len(table))
        self.assertEqual({1, 2, 3, 4, 5, 6}, sizes)


class OtherQuestionsTest(unittest.TestCase):

    def test_an_answer_is_the_same_behind_other_questions(self):
        lot = chance(136)
        asked = [polynomial_by_chance(lot, lot.randint(1, 9), 9) for time in range(60)]
        other = [0, 1, -2, 1]
        first = [(common_part(one, other), roots_between(one, (-2, 1), (3, 2))) for one in asked]
        for one, right in list(zip(asked, first))[::-1]:
            self.assertEqual(right, (common_part(one, other), roots_between(one, (-2, 1), (3, 2))))


if __name__ == "__main__":
    unittest.main()
