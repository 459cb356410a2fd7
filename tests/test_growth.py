"""Points [31] and [32], and [2] of the same functions."""

import fractions
import math
import unittest

from foreverrows.errors import NoWhole
from foreverrows.growth import growth_held, growths_held
from foreverrows.nets import beat_of, hangs_together
from foreverrows.polynomials import common_part, roots_between, wide_polynomial
from foreverrows.rounds import rounds
from tests.helper import chance, check_own, check_refused, table_by_chance

GOLDEN = [[1, 1], [1, 0]]
NOT_WHOLE = [[[0]], [[1, 1], [0, 1]], [[1, 0], [0, 1]], [[0, 5], [0, 0]], [[0] * 6 for row in range(6)]]
# One heavy place, and a long way round: the weights differ by many figures.
HEAVY = [[34 if i == j == 0 else int(j == (i + 1) % 6) for j in range(6)] for i in range(6)]
# Two heavy places far from one another: a second root comes near the growth.
TWINS = [[16 if i == j and i in (0, 3) else int(j == (i + 1) % 6) for j in range(6)] for i in range(6)]


def ring(many):
    return [[int(j == (i + 1) % many) for j in range(many)] for i in range(many)]


def whole_tables(seed, many):
    lot = chance(seed)
    made = []
    while len(made) < many:
        table = table_by_chance(lot)
        if hangs_together(table):
            made.append(table)
    return made


def flipped(table):
    return [list(column) for column in zip(*table)]


def doubled(table):
    """Each place twice, each arrow to one of the two alone: the growth is the same."""
    many = len(table)
    made = [[0] * (2 * many) for row in range(2 * many)]
    for i in range(2 * many):
        for j in range(many):
            one = table[i % many][j] // 2 if i < many else (table[i % many][j] + 1) // 2
            made[i][j] = one
            made[i][j + many] = table[i % many][j] - one
    return made


class GrowthTest(unittest.TestCase):

    def check_held(self, table, figures):
        told = check_own(self, growth_held, table, figures)
        self.assertIsInstance(told, tuple)
        low, high, weights = told
        self.check_fraction(low)
        self.check_fraction(high)
        low, high = fractions.Fraction(*low), fractions.Fraction(*high)
        self.assertLessEqual(high - low, fractions.Fraction(1, 10 ** figures))
        self.assertEqual(len(table), len(weights))
        for row, weight in zip(table, weights):
            self.assertIs(int, weight.__class__)
            self.assertGreaterEqual(weight, 1)
            made = sum([entry * other for entry, other in zip(row, weights)])
            self.assertLessEqual(low * weight, made)
            self.assertGreaterEqual(high * weight, made)
        return (low, high)

    def check_fraction(self, told):
        self.assertIsInstance(told, tuple)
        top, bottom = told
        self.assertIs(int, top.__class__)
        self.assertIs(int, bottom.__class__)
        self.assertGreaterEqual(bottom, 1)
        self.assertEqual(1, math.gcd(top, bottom))

    def test_golden(self):
        for figures in range(5):
            low, high = self.check_held(GOLDEN, figures)
            # The growth g is above 0, and its square is g and 1.
            self.assertLessEqual(low * low, low + 1)
            self.assertGreaterEqual(high * high, high + 1)

    def test_one_place(self):
        for many in (1, 2, 7, 40):
            for figures in range(5):
                low, high = self.check_held([[many]], figures)
                self.assertTrue(low <= many <= high)

    def test_rings(self):
        for many in range(1, 7):
            for figures in (0, 4):
                low, high = self.check_held(ring(many), figures)
                self.assertTrue(low <= 1 <= high)

    def test_beats_above_one(self):
        two = [[0, 2], [3, 0]]
        three = [[0, 1, 1, 0], [0, 0, 0, 1], [0, 0, 0, 2], [1, 0, 0, 0]]
        six = ring(6)
        six[2][3] = 5
        for table, beat in ((two, 2), (three, 3), (six, 6)):
            self.assertEqual(beat, beat_of(table)[0])
            power = {2: 6, 3: 3, 6: 5}[beat]
            for figures in range(5):
                low, high = self.check_held(table, figures)
                self.assertTrue(low ** beat <= power <= high ** beat)

    def test_many_tables(self):
        sizes = set()
        beats = set()
        for at, table in enumerate(whole_tables(141, 100)):
            low, high = self.check_held(table, at % 5)
            sizes.add(len(table))
            beats.add(beat_of(table)[0])
            # No more rows come round than a power of the growth for each place.
            self.assertLessEqual(rounds(table, 24), len(table) * high ** 24)
        self.assertEqual({1, 2, 3, 4, 5, 6}, sizes)
        self.assertGreater(len(beats), 1)

    def test_weights_far_apart_and_roots_close_together(self):
        for table in (HEAVY, flipped(HEAVY), TWINS):
            for figures in range(5):
                self.check_held(table, figures)

    def test_not_whole(self):
        for table in NOT_WHOLE:
            for figures in (0, 4):
                check_refused(self, NoWhole, growth_held, table, figures)


class GrowthsTest(unittest.TestCase):

    def check_side_by_side(self, one, other):
        """By the roots of the polynomials between the fractions; told is the first word."""
        told = check_own(self, growths_held, one, other)
        self.assertIsInstance(told, tuple)
        polynomials = [wide_polynomial(one), wide_polynomial(other)]
        if told[0] == "alike":
            word, part, low, high = told
            self.assertEqual(common_part(*polynomials), part)
            for polynomial in polynomials + [part]:
                self.assertEqual(1, roots_between(polynomial, low, high))
                self.assertEqual(0, roots_between(polynomial, high, (10 ** 6, 1)))
            held = [(low, high)]
        else:
            word, low, high, low2, high2 = told
            self.assertEqual("apart", word)
            held = [(low, high), (low2, high2)]
            for polynomial, (below, above) in zip(polynomials, held):
                self.assertGreaterEqual(roots_between(polynomial, below, above), 1)
                self.assertEqual(0, roots_between(polynomial, above, (10 ** 6, 1)))
                value = sum([x * fractions.Fraction(*above) ** at for at, x in enumerate(polynomial)])
                self.assertNotEqual(0, value, "a growth lies between its fractions, at none of them")
            first = fractions.Fraction(*high) < fractions.Fraction(*low2)
            self.assertNotEqual(first, fractions.Fraction(*high2) < fractions.Fraction(*low))
        for below, above in held:
            for top, bottom in (below, above):
                self.assertGreaterEqual(bottom, 1)
                self.assertEqual(1, math.gcd(top, bottom))
            self.assertLess(fractions.Fraction(*below), fractions.Fraction(*above))
        return told[0]

    def test_apart_either_way(self):
        self.assertEqual("apart", self.check_side_by_side([[2]], [[3]]))
        self.assertEqual("apart", self.check_side_by_side([[3]], [[2]]))
        self.assertEqual("apart", self.check_side_by_side(GOLDEN, [[2]]))
        self.assertEqual("apart", self.check_side_by_side([[2]], GOLDEN))

    def test_growths_that_are_whole_numbers(self):
        # Halved again and again, some growth is met just in the middle.
        for one in range(1, 9):
            for other in range(1, 9):
                word = self.check_side_by_side([[one]], [[other - 1, 1], [other, 0]])
                self.assertEqual("alike" if one == other else "apart", word)

    def test_alike(self):
        self.assertEqual("alike", self.check_side_by_side([[2]], [[1, 1], [1, 1]]))
        self.assertEqual("alike", self.check_side_by_side([[2]], [[2]]))
        self.assertEqual("alike", self.check_side_by_side(GOLDEN, [[1, 1, 0], [0, 0, 1], [1, 1, 0]]))
        for many in range(1, 7):
            self.assertEqual("alike", self.check_side_by_side(ring(many), ring(7 - many)))

    def test_a_growth_that_is_a_lesser_root_of_the_other(self):
        # The roots of the second table are 1 and 3.
        self.assertEqual("apart", self.check_side_by_side([[1]], [[2, 1], [1, 2]]))
        self.assertEqual("apart", self.check_side_by_side([[2, 1], [1, 2]], [[1]]))
        self.assertEqual("alike", self.check_side_by_side([[2, 1], [1, 2]], [[3]]))

    def test_a_common_root_that_is_no_growth(self):
        # The roots of the first table are -1, 1 and 2.
        one = [[0, 1, 1], [1, 1, 0], [1, 0, 1]]
        self.assertEqual([-1, 1], common_part(wide_polynomial(one), wide_polynomial([[2, 1], [1, 2]])))
        self.assertEqual("apart", self.check_side_by_side(one, [[2, 1], [1, 2]]))

    def test_growths_close_together(self):
        self.assertEqual("apart", self.check_side_by_side(TWINS, [[16]]))
        self.assertEqual("apart", self.check_side_by_side([[34]], HEAVY))
        near = [row[:] for row in HEAVY]
        near[5][0] = 2
        self.assertEqual("apart", self.check_side_by_side(near, HEAVY))

    def test_the_same_growth_in_another_table(self):
        for table in whole_tables(142, 40):
            self.assertEqual("alike", self.check_side_by_side(table, table))
            self.assertEqual("alike", self.check_side_by_side(table, flipped(table)))
            if len(table) <= 3 and hangs_together(doubled(table)):
                self.assertEqual("alike", self.check_side_by_side(table, doubled(table)))
                self.assertEqual("alike", self.check_side_by_side(doubled(table), table))

    def test_many_pairs(self):
        tables = whole_tables(143, 60)
        found = [self.check_side_by_side(one, other) for one, other in zip(tables, tables[1:])]
        self.assertIn("apart", found)

    def test_not_whole(self):
        for table in NOT_WHOLE:
            check_refused(self, NoWhole, growths_held, table, GOLDEN)
            check_refused(self, NoWhole, growths_held, GOLDEN, table)
            check_refused(self, NoWhole, growths_held, table, table)


class OtherQuestionsTest(unittest.TestCase):

    def test_an_answer_is_the_same_behind_other_questions(self):
        asked = whole_tables(144, 30)
        first = [(growth_held(table, 2), growths_held(table, GOLDEN)) for table in asked]
        for table, right in list(zip(asked, first))[::-1]:
            self.assertEqual(right, (growth_held(table, 2), growths_held(table, GOLDEN)))


if __name__ == "__main__":
    unittest.main()
