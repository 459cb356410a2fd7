"""Points [9] and [10], and [2] of the same functions."""

import unittest

from foreverrows.errors import NoTable
from foreverrows.grids import plain_grid
from foreverrows.tables import arrows_of, vet, walk_between
from tests.helper import chance, check_own, check_refused, steps_needed, table_by_chance

THIRTY = 10 ** 29


def noughts(many):
    return [[0] * many for row in range(many)]


class VetTest(unittest.TestCase):

    def test_one_to_six_rows(self):
        for many in range(1, 7):
            self.assertIs(True, check_own(self, vet, noughts(many)))
            self.assertIs(True, check_own(self, vet, plain_grid(many)))

    def test_entries_that_come_together_to_forty(self):
        self.assertIs(True, vet([[40]]))
        self.assertIs(True, vet([[10, 10], [10, 10]]))
        for many in range(1, 7):
            for at in range(many):
                table = noughts(many)
                table[at][many - 1 - at] = 39
                table[0][0] += 1
                self.assertIs(True, vet(table))
                table[many - 1][at] += 1
                check_refused(self, NoTable, vet, table)

    def test_entries_that_come_to_more(self):
        check_refused(self, NoTable, vet, [[41]])
        check_refused(self, NoTable, vet, [[10, 10], [10, 11]])
        check_refused(self, NoTable, vet, [[2] * 6 for row in range(6)])
        check_refused(self, NoTable, vet, [[THIRTY]])

    def test_no_rows_or_seven(self):
        check_refused(self, NoTable, vet, [])
        check_refused(self, NoTable, vet, noughts(7))
        check_refused(self, NoTable, vet, plain_grid(8))

    def test_rows_without_entries(self):
        check_refused(self, NoTable, vet, [[]])
        check_refused(self, NoTable, vet, [[], []])

    def test_rows_of_unlike_lengths(self):
        check_refused(self, NoTable, vet, [[1, 0], [1]])
        check_refused(self, NoTable, vet, [[1], [1, 0]])
        check_refused(self, NoTable, vet, [[1, 0], []])
        check_refused(self, NoTable, vet, [[1, 0], [1, 0, 0]])
        check_refused(self, NoTable, vet, [[1, 0, 0], [1]])

    def test_not_as_many_columns_as_rows(self):
        for many in range(1, 7):
            for wide in range(1, 8):
                if many != wide:
                    check_refused(self, NoTable, vet, [[0] * wide for row in range(many)])

    def test_a_number_below_nought(self):
        check_refused(self, NoTable, vet, [[-1]])
        check_refused(self, NoTable, vet, [[-THIRTY]])
        for i in range(3):
            for j in range(3):
                table = [[1] * 3 for row in range(3)]
                table[i][j] = -1
                check_refused(self, NoTable, vet, table)

    def test_a_number_below_nought_does_not_make_room(self):
        check_refused(self, NoTable, vet, [[41, -1], [0, 0]])

    def test_a_truth_is_no_entry(self):
        check_refused(self, NoTable, vet, [[True]])
        check_refused(self, NoTable, vet, [[1, False], [1, 1]])


class ArrowsTest(unittest.TestCase):

    def test_ordinary_ones(self):
        self.assertEqual([], arrows_of([[0]]))
        self.assertEqual([(0, 0, 0), (0, 0, 1)], arrows_of([[2]]))
        right = [(0, 1, 0), (0, 1, 1), (1, 0, 0), (1, 1, 0), (1, 1, 1), (1, 1, 2)]
        self.assertEqual(right, arrows_of([[0, 2], [1, 3]]))

    def test_all_arrows_sorted(self):
        lot = chance(31)
        for time in range(100):
            table = table_by_chance(lot)
            told = check_own(self, arrows_of, table)
            self.assertEqual(sorted(told), told)
            self.assertEqual(sum([sum(row) for row in table]), len(told))
            for i, row in enumerate(table):
                for j, entry in enumerate(row):
                    self.assertEqual(list(range(entry)), [k for x, y, k in told if (x, y) == (i, j)])

    def test_forty_arrows(self):
        self.assertEqual([(0, 0, k) for k in range(40)], arrows_of([[40]]))

    def test_more_places_and_arrows(self):
        self.assertEqual(8 * 8 * 2, len(arrows_of([[2] * 8 for row in range(8)])))


class WalkTest(unittest.TestCase):

    def check_walk(self, table, i, j):
        walk = check_own(self, walk_between, table, i, j)
        needed = steps_needed(table, i, j)
        if needed is None:
            self.assertIsNone(walk)
            return
        self.assertEqual(needed, len(walk))
        self.assertEqual((i, j), (walk[0][0], walk[-1][1]))
        for one, other in zip(walk, walk[1:]):
            self.assertEqual(one[1], other[0])
        for start, end, k in walk:
            self.assertTrue(0 <= k < table[start][end])

    def test_one_place_twice_has_one_arrow_at_least(self):
        self.assertEqual([(0, 0, 0)], walk_between([[1]], 0, 0))
        self.assertIsNone(walk_between([[0]], 0, 0))
        self.assertEqual([(0, 1, 0), (1, 0, 0)], walk_between([[0, 1], [1, 0]], 0, 0))
        self.assertEqual([(1, 0, 0), (0, 1, 0)], walk_between([[0, 1], [1, 0]], 1, 1))
        self.assertIsNone(walk_between([[0, 1], [0, 1]], 0, 0))

    def test_as_few_arrows_as_can_be(self):
        table = [[0, 1, 0, 0], [0, 0, 1, 1], [0, 0, 0, 1], [1, 0, 0, 0]]
        self.assertEqual([(0, 1, 0), (1, 3, 0)], walk_between(table, 0, 3))
        self.assertEqual([(0, 1, 0), (1, 3, 0), (3, 0, 0)], walk_between(table, 0, 0))
        self.assertEqual([(3, 0, 0), (0, 1, 0), (1, 2, 0)], walk_between(table, 3, 2))

    def test_none_where_there_is_none(self):
        self.assertIsNone(walk_between([[0, 1], [0, 1]], 1, 0))
        self.assertIsNone(walk_between([[1, 0], [0, 1]], 0, 1))

    def test_all_pairs_of_places(self):
        lot = chance(32)
        for time in range(60):
            table = table_by_chance(lot)
            for i in range(len(table)):
                for j in range(len(table)):
                    self.check_walk(table, i, j)

    def test_more_places_and_greater_numbers(self):
        table = [[THIRTY * int(j == (i + 1) % 9) for j in range(9)] for i in range(9)]
        self.check_walk(table, 4, 3)
        self.check_walk(table, 4, 4)


if __name__ == "__main__":
    unittest.main()
