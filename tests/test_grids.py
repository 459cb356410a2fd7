"""Points [4] and [5], and [2] of the same functions."""

import unittest

from foreverrows.errors import NoGrid, NoStep
from foreverrows.grids import added, multiplied, plain_grid, powered, stepped, taken_off
from tests.helper import SHAPES, chance, check_own, check_refused, grid_by_chance

THIRTY = 10 ** 29
GREAT = 10 ** 100 - 1


def product(one, other):
    """Told entry by entry, another way than the program's."""
    made = [[0] * len(other[0]) for row in one]
    for i in range(len(one)):
        for j in range(len(other[0])):
            for k in range(len(other)):
                made[i][j] += one[i][k] * other[k][j]
    return made


class PlainGridTest(unittest.TestCase):

    def test_one_to_eight_rows(self):
        self.assertEqual([[1]], plain_grid(1))
        self.assertEqual([[1, 0, 0], [0, 1, 0], [0, 0, 1]], plain_grid(3))
        for n in range(1, 9):
            grid = check_own(self, plain_grid, n)
            self.assertEqual([n] * n, [len(row) for row in grid])
            for i in range(n):
                for j in range(n):
                    self.assertEqual(int(i == j), grid[i][j])

    def test_somewhat_beyond_eight_rows_nothing_is_refused(self):
        self.assertEqual([1] * 9, [plain_grid(9)[at][at] for at in range(9)])


class SumTest(unittest.TestCase):

    def test_ordinary_ones(self):
        one, other = [[1, -2], [3, 40]], [[5, 6], [-7, 8]]
        self.assertEqual([[6, 4], [-4, 48]], added(one, other))
        self.assertEqual([[-4, -8], [10, 32]], taken_off(one, other))
        self.assertEqual([[4, 8], [-10, -32]], taken_off(other, one))

    def test_one_by_one_and_great_numbers(self):
        self.assertEqual([[7]], added([[3]], [[4]]))
        self.assertEqual([[-1]], taken_off([[3]], [[4]]))
        self.assertEqual([[3 * THIRTY, -THIRTY]], added([[THIRTY, -2 * THIRTY]], [[2 * THIRTY, THIRTY]]))
        self.assertEqual([[2 * GREAT], [0]], taken_off([[GREAT], [GREAT]], [[-GREAT], [GREAT]]))

    def test_all_shapes(self):
        lot = chance(4)
        for many, wide in SHAPES:
            one = grid_by_chance(lot, many, wide, 10 ** 30)
            other = grid_by_chance(lot, many, wide, 10 ** 30)
            both = check_own(self, added, one, other)
            less = check_own(self, taken_off, one, other)
            for i in range(many):
                for j in range(wide):
                    self.assertEqual(one[i][j] + other[i][j], both[i][j])
                    self.assertEqual(one[i][j] - other[i][j], less[i][j])

    def test_a_grid_with_itself(self):
        grid = [[1, 2], [3, 4]]
        self.assertEqual([[2, 4], [6, 8]], added(grid, grid))
        self.assertEqual([[0, 0], [0, 0]], taken_off(grid, grid))
        self.assertEqual([[1, 2], [3, 4]], grid)

    def test_unlike_shapes(self):
        lot = chance(5)
        for shape in SHAPES:
            for other_shape in [(1, 1), (8, 8), (2, 3), (3, 2), (shape[1], shape[0]), (shape[0], 9 - shape[1])]:
                if shape != other_shape:
                    one = grid_by_chance(lot, shape[0], shape[1], 9)
                    other = grid_by_chance(lot, other_shape[0], other_shape[1], 9)
                    check_refused(self, NoGrid, added, one, other)
                    check_refused(self, NoGrid, taken_off, one, other)


class ProductTest(unittest.TestCase):

    def test_ordinary_ones(self):
        self.assertEqual([[19, 22], [43, 50]], multiplied([[1, 2], [3, 4]], [[5, 6], [7, 8]]))
        self.assertEqual([[23, 34], [31, 46]], multiplied([[5, 6], [7, 8]], [[1, 2], [3, 4]]))
        self.assertEqual([[-6]], multiplied([[2]], [[-3]]))
        self.assertEqual([[32]], multiplied([[1, 2, 3]], [[4], [5], [6]]))
        self.assertEqual([[4, 8], [5, 10], [6, 12]], multiplied([[4], [5], [6]], [[1, 2]]))

    def test_great_numbers(self):
        self.assertEqual([[-GREAT * GREAT]], multiplied([[GREAT]], [[-GREAT]]))
        self.assertEqual([[2 * THIRTY ** 2]], multiplied([[THIRTY, THIRTY]], [[THIRTY], [THIRTY]]))

    def test_all_shapes_that_fit_and_all_that_do_not(self):
        lot = chance(6)
        for many, wide in SHAPES:
            one = grid_by_chance(lot, many, wide, 10 ** 30)
            for rows in range(1, 9):
                other = grid_by_chance(lot, rows, lot.randint(1, 8), 10 ** 30)
                if rows == wide:
                    right = product(one, other)
                    told = check_own(self, multiplied, one, other)
                    self.assertEqual(right, told)
                else:
                    check_refused(self, NoGrid, multiplied, one, other)

    def test_one_shape_is_not_enough(self):
        check_refused(self, NoGrid, multiplied, [[1, 2]], [[3, 4]])


class PowerTest(unittest.TestCase):

    def test_ordinary_ones(self):
        self.assertEqual([[1, 3], [0, 1]], powered([[1, 1], [0, 1]], 3))
        self.assertEqual([[2 ** 24]], powered([[2]], 24))
        self.assertEqual([[46368, 28657], [28657, 17711]], powered([[1, 1], [1, 0]], 23))

    def test_power_nought_is_the_plain_grid(self):
        for n in range(1, 9):
            self.assertEqual(plain_grid(n), powered([[0] * n for row in range(n)], 0))
            self.assertEqual(plain_grid(n), powered([[7] * n for row in range(n)], 0))

    def test_each_power_from_nought_to_twenty_four(self):
        lot = chance(7)
        for n in (1, 2, 5, 8):
            grid = grid_by_chance(lot, n, n, 10 ** 30)
            right = plain_grid(n)
            for many in range(25):
                told = check_own(self, powered, grid, many)
                self.assertEqual(right, told)
                right = product(right, grid)

    def test_somewhat_beyond_twenty_four_nothing_is_refused(self):
        self.assertEqual([[3 ** 25]], powered([[3]], 25))

    def test_not_as_many_rows_as_columns(self):
        for many, wide in SHAPES:
            if many != wide:
                for power in (0, 1, 2, 24):
                    check_refused(self, NoGrid, powered, [[1] * wide for row in range(many)], power)


class StepTest(unittest.TestCase):

    def test_by_rows(self):
        grid = [[1, 2, 3], [4, 5, 6]]
        self.assertEqual([[9, 12, 15], [4, 5, 6]], stepped(grid, ("row", 0, 1, 2)))
        self.assertEqual([[1, 2, 3], [3, 3, 3]], stepped(grid, ("row", 1, 0, -1)))
        self.assertEqual(grid, stepped(grid, ("row", 1, 0, 0)))

    def test_by_columns(self):
        grid = [[1, 2, 3], [4, 5, 6]]
        self.assertEqual([[7, 2, 3], [16, 5, 6]], stepped(grid, ("column", 0, 2, 2)))
        self.assertEqual([[1, 2, 2], [4, 5, 2]], stepped(grid, ("column", 2, 0, -1)))
        self.assertEqual(grid, stepped(grid, ("column", 2, 1, 0)))

    def test_all_shapes_and_all_counts(self):
        lot = chance(8)
        for many, wide in SHAPES:
            grid = grid_by_chance(lot, many, wide, 10 ** 30)
            for word, places in (("row", many), ("column", wide)):
                for q in (0, 1, -1, 5, -THIRTY, GREAT):
                    if places > 1:
                        i, j = lot.sample(range(places), 2)
                        self.check_step(grid, word, i, j, q)

    def check_step(self, grid, word, i, j, q):
        told = check_own(self, stepped, grid, (word, i, j, q))
        for row, line in enumerate(grid):
            for column, entry in enumerate(line):
                if word == "row" and row == i:
                    entry += q * grid[j][column]
                if word == "column" and column == i:
                    entry += q * grid[row][j]
                self.assertEqual(entry, told[row][column])

    def test_numbers_of_no_row_or_column(self):
        for many, wide in SHAPES:
            grid = [[1] * wide for row in range(many)]
            for word, places in (("row", many), ("column", wide)):
                for wrong in (-1, -places, places, places + 1, GREAT, -GREAT):
                    for q in (0, 1, -2):
                        check_refused(self, NoStep, stepped, grid, (word, wrong, 0, q))
                        check_refused(self, NoStep, stepped, grid, (word, 0, wrong, q))
                        check_refused(self, NoStep, stepped, grid, (word, wrong, wrong, q))

    def test_one_row_or_column_twice(self):
        for word in ("row", "column"):
            for at in range(3):
                for q in (0, 1, -1):
                    check_refused(self, NoStep, stepped, [[1, 2, 3], [4, 5, 6], [7, 8, 9]], (word, at, at, q))

    def test_rows_are_not_columns(self):
        wide = [[1, 2, 3]]
        self.assertEqual([[1, 2, 4]], stepped(wide, ("column", 2, 0, 1)))
        check_refused(self, NoStep, stepped, wide, ("row", 2, 0, 1))
        high = [[1], [2], [3]]
        self.assertEqual([[1], [2], [4]], stepped(high, ("row", 2, 0, 1)))
        check_refused(self, NoStep, stepped, high, ("column", 2, 0, 1))


if __name__ == "__main__":
    unittest.main()
