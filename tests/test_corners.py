"""Points [6], [7] and [8], and [2] of the same functions."""

import itertools
import math
import unittest

from foreverrows.corners import corner_form, determinant, turned_back
from foreverrows.errors import NoBack, NoGrid
from foreverrows.grids import multiplied, plain_grid, stepped
from tests.helper import SHAPES, by_minors, by_orders, chance, check_own, check_refused, grid_by_chance

GREAT = 10 ** 100 - 1


def stepped_about(lot, grid, times, most):
    """The grid led by steps of rows and columns, which change neither determinant nor corners."""
    for time in range(times):
        word, places = lot.choice([("row", len(grid)), ("column", len(grid[0]))])
        if places > 1:
            i, j = lot.sample(range(places), 2)
            grid = stepped(grid, (word, i, j, lot.randint(-most, most)))
    return grid


def diagonal_grid(many, wide, corners):
    return [[corners[i] if i == j and i < len(corners) else 0 for j in range(wide)] for i in range(many)]


class DeterminantTest(unittest.TestCase):

    def test_ordinary_ones(self):
        self.assertEqual(-7, determinant([[-7]]))
        self.assertEqual(0, determinant([[0]]))
        self.assertEqual(-2, determinant([[1, 2], [3, 4]]))
        self.assertEqual(2, determinant([[3, 4], [1, 2]]))
        self.assertEqual(-306, determinant([[6, 1, 1], [4, -2, 5], [2, 8, 7]]))

    def test_one_to_eight_rows(self):
        lot = chance(9)
        for n in range(1, 9):
            for most in (1, 9, 10 ** 30, GREAT):
                if n == 8 and most != 9:
                    continue
                grid = grid_by_chance(lot, n, n, most)
                right = by_orders(grid)
                self.assertEqual(right, check_own(self, determinant, grid))

    def test_eight_rows_with_great_numbers(self):
        lot = chance(10)
        for number in (GREAT, -GREAT, 10 ** 29 + 3):
            corners = [1, 1, 2, -1, 3, 1, 1, number]
            self.assertEqual(-6 * number, determinant(stepped_about(lot, diagonal_grid(8, 8, corners), 60, 2)))

    def test_a_row_that_is_a_sum_of_others(self):
        lot = chance(11)
        for n in range(2, 9):
            grid = grid_by_chance(lot, n, n, 10 ** 30)
            at = lot.randrange(n)
            others = [row for number, row in enumerate(grid) if number != at]
            grid[at] = [sum([row[column] for row in others]) for column in range(n)]
            self.assertEqual(0, determinant(grid))

    def test_nought_where_a_first_entry_is(self):
        self.assertEqual(-1, determinant([[0, 1], [1, 0]]))
        self.assertEqual(-6, determinant([[0, 2], [3, 5]]))
        self.assertEqual(1, determinant([[0, 1, 0], [0, 0, 1], [1, 0, 0]]))
        self.assertEqual(0, determinant([[0, 1], [0, 2]]))
        self.assertEqual(0, determinant([[0, 0], [1, 2]]))
        lot = chance(12)
        for n in range(2, 7):
            for time in range(30):
                grid = [[lot.choice([0, 0, 1, -1, 2]) for column in range(n)] for row in range(n)]
                grid[0][0] = 0
                self.assertEqual(by_orders(grid), determinant(grid))

    def test_every_order_of_the_rows(self):
        for order in itertools.permutations(range(5)):
            grid = [[int(column == place) for column in range(5)] for place in order]
            self.assertEqual(by_orders(grid), determinant(grid))

    def test_not_as_many_rows_as_columns(self):
        for many, wide in SHAPES:
            if many != wide:
                check_refused(self, NoGrid, determinant, [[1] * wide for row in range(many)])


class CornerFormTest(unittest.TestCase):

    def check_form(self, grid):
        """All that [7] says of a corner form; told are the corners on the diagonal."""
        form = check_own(self, corner_form, grid)
        self.assertIsInstance(form, tuple)
        left, corners, right = form
        many, wide = len(grid), len(grid[0])
        self.assertEqual([many] * many, [len(row) for row in left])
        self.assertEqual([wide] * wide, [len(row) for row in right])
        self.assertEqual(corners, multiplied(multiplied(left, grid), right))
        self.assertIn(determinant(left), (1, -1))
        self.assertIn(determinant(right), (1, -1))
        for i, row in enumerate(corners):
            for j, entry in enumerate(row):
                if i != j:
                    self.assertEqual(0, entry)
        diagonal = [corners[at][at] for at in range(min(many, wide))]
        for entry in diagonal:
            self.assertGreaterEqual(entry, 0)
        for one, other in zip(diagonal, diagonal[1:]):
            self.assertTrue(other == 0 or (one != 0 and other % one == 0))
        return diagonal

    def test_one_by_one(self):
        self.assertEqual([5], self.check_form([[5]]))
        self.assertEqual([5], self.check_form([[-5]]))
        self.assertEqual([0], self.check_form([[0]]))
        self.assertEqual([GREAT], self.check_form([[-GREAT]]))

    def test_ordinary_ones(self):
        self.assertEqual([2, 6, 12], self.check_form([[2, 4, 4], [-6, 6, 12], [10, -4, -16]]))
        self.assertEqual([1, 6], self.check_form([[2, 0], [0, 3]]))
        self.assertEqual([2, 12], self.check_form([[4, 0], [0, 6]]))
        self.assertEqual([1, 0], self.check_form([[1, 1], [1, 1]]))

    def test_noughts_ahead_of_others_on_the_diagonal(self):
        self.assertEqual([5, 0], self.check_form([[0, 0], [0, 5]]))
        self.assertEqual([1, 6, 0], self.check_form([[3, 0, 0], [0, 0, 0], [0, 0, -2]]))
        self.assertEqual([3, 0], self.check_form([[0, 0], [0, 0], [0, -3]]))

    def test_all_shapes_of_noughts(self):
        for many, wide in SHAPES:
            self.assertEqual([0] * min(many, wide), self.check_form([[0] * wide for row in range(many)]))

    def test_all_shapes(self):
        lot = chance(13)
        for many, wide in SHAPES:
            for most in (1, 6, 10 ** 30):
                grid = grid_by_chance(lot, many, wide, most)
                told = self.check_form(grid)
                if min(many, wide) <= 3 and max(many, wide) <= 5:
                    self.assertEqual(by_minors(grid), told)

    def test_known_corners_in_all_shapes(self):
        lot = chance(14)
        chain = [1, 1, 2, 2, 6, 12, 60, 0]
        for many, wide in SHAPES:
            right = chain[8 - min(many, wide):] if lot.random() < 0.5 else chain[:min(many, wide)]
            signed = [lot.choice([1, -1]) * corner for corner in right]
            lot.shuffle(signed)
            grid = stepped_about(lot, diagonal_grid(many, wide, signed), 40, 2)
            self.assertEqual(right, self.check_form(grid))

    def test_corners_that_divide_one_another_only_when_drawn_together(self):
        lot = chance(15)
        parts = [4, 6, 9, 10, 15, 25, 14, 21]
        grid = stepped_about(lot, diagonal_grid(8, 8, parts), 60, 2)
        self.assertEqual(by_minors_of_diagonal(parts), self.check_form(grid))
        self.assertEqual(by_minors_of_diagonal(parts), self.check_form(diagonal_grid(8, 8, parts)))

    def test_a_number_in_common(self):
        lot = chance(16)
        for common in (2, 6, 10 ** 20):
            for many, wide in ((2, 2), (3, 3), (2, 4), (4, 3), (8, 8)):
                grid = grid_by_chance(lot, many, wide, 9)
                grid = [[common * entry for entry in row] for row in grid]
                for corner in self.check_form(grid):
                    self.assertEqual(0, corner % common)

    def test_rows_that_repeat(self):
        lot = chance(17)
        for many, wide in SHAPES:
            row = [lot.randint(-20, 20) for column in range(wide)]
            told = self.check_form([row[:] for time in range(many)])
            self.assertEqual([math.gcd(*row)] + [0] * (min(many, wide) - 1), told)
        for time in range(40):
            two = grid_by_chance(lot, 2, 6, 10 ** 10)
            told = self.check_form([two[lot.randrange(2)][:] for row in range(7)])
            self.assertEqual([0] * 4, told[2:])

    def test_many_small_grids_with_noughts(self):
        lot = chance(18)
        for time in range(400):
            many, wide = lot.randint(1, 4), lot.randint(1, 4)
            grid = [[lot.choice([0, 0, 1, 2, -2, 3, 4, -6, 9]) for column in range(wide)] for row in range(many)]
            self.assertEqual(by_minors(grid), self.check_form(grid))

    def test_numbers_of_a_hundred_figures(self):
        lot = chance(19)
        for many, wide in SHAPES:
            grid = grid_by_chance(lot, many, wide, GREAT)
            self.check_form(grid)
            # Python writes no number of more than 4300 figures, so that an asker could not look at a greater one.
            for told in corner_form(grid):
                self.assertLess(max([abs(entry) for row in told for entry in row]), 10 ** 4000)

    def test_what_was_told_is_handed_in_again(self):
        left, corners, right = corner_form(grid_by_chance(chance(20), 8, 8, GREAT))
        self.assertEqual([1] * 8, self.check_form(left))
        self.assertEqual([1] * 8, self.check_form(right))
        self.assertEqual([corners[at][at] for at in range(8)], self.check_form(corners))

    def test_somewhat_beyond_eight_rows_nothing_is_refused(self):
        self.check_form(grid_by_chance(chance(21), 9, 10, 9))


def by_minors_of_diagonal(parts):
    """The corners of a grid with these numbers on the diagonal, none of them 0, prime by prime."""
    told = [1] * len(parts)
    for prime in (2, 3, 5, 7):
        powers = sorted([max([many for many in range(9) if part % prime ** many == 0]) for part in parts])
        told = [corner * prime ** many for corner, many in zip(told, powers)]
    return told


class TurnedBackTest(unittest.TestCase):

    def test_ordinary_ones(self):
        self.assertEqual([[1]], turned_back([[1]]))
        self.assertEqual([[-1]], turned_back([[-1]]))
        self.assertEqual([[1, -2], [0, 1]], turned_back([[1, 2], [0, 1]]))
        self.assertEqual([[0, 1], [1, 0]], turned_back([[0, 1], [1, 0]]))
        self.assertEqual([[0, 1], [-1, 0]], turned_back([[0, -1], [1, 0]]))
        self.assertEqual([[-5, 2], [3, -1]], turned_back([[1, 2], [3, 5]]))

    def test_from_either_side(self):
        lot = chance(22)
        for n in range(1, 9):
            for most in (2, 10 ** 8, 10 ** 30):
                signs = [lot.choice([1, -1]) for place in range(n)]
                times = 40 if most == 2 else 5
                grid = stepped_about(lot, diagonal_grid(n, n, signs), times, most)
                back = check_own(self, turned_back, grid)
                self.assertEqual(plain_grid(n), multiplied(back, grid))
                self.assertEqual(plain_grid(n), multiplied(grid, back))
                self.assertEqual(grid, turned_back(back))

    def test_both_determinants(self):
        lot = chance(23)
        for sign in (1, -1):
            grid = stepped_about(lot, diagonal_grid(4, 4, [1, 1, sign, 1]), 30, 3)
            self.assertEqual(sign, determinant(grid))
            self.assertEqual(plain_grid(4), multiplied(turned_back(grid), grid))

    def test_what_was_told_is_turned_back(self):
        left, corners, right = corner_form(grid_by_chance(chance(24), 8, 8, GREAT))
        self.assertEqual(plain_grid(8), multiplied(left, turned_back(left)))
        self.assertEqual(plain_grid(8), multiplied(turned_back(right), right))

    def test_another_determinant(self):
        for grid in ([[0]], [[2]], [[-2]], [[1, 1], [1, 1]], [[1, 0], [0, 2]], [[0, 2], [1, 0]], [[GREAT]]):
            check_refused(self, NoBack, turned_back, grid)

    def test_the_shape_is_refused_ahead_of_the_determinant(self):
        for many, wide in SHAPES:
            if many != wide:
                check_refused(self, NoGrid, turned_back, [[0] * wide for row in range(many)])
                check_refused(self, NoGrid, turned_back, diagonal_grid(many, wide, [1] * 8))


if __name__ == "__main__":
    unittest.main()
