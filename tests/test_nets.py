"""Points [11] and [12], and [2] of the same functions."""

import math
import unittest

from foreverrows.errors import NoWhole
from foreverrows.nets import beat_of, hangs_together, is_ring, parts_of
from tests.helper import chance, check_own, check_refused, steps_needed, table_by_chance

THIRTY = 10 ** 29


def ring(many):
    return [[int(j == (i + 1) % many) for j in range(many)] for i in range(many)]


def tables():
    lot = chance(41)
    return [table_by_chance(lot) for time in range(400)] + [ring(many) for many in range(1, 7)]


def renumbered(table, order):
    return [[table[i][j] for j in order] for i in order]


class PartsTest(unittest.TestCase):

    def test_ordinary_ones(self):
        self.assertEqual([[0]], parts_of([[0]]))
        self.assertEqual([[0]], parts_of([[3]]))
        self.assertEqual([[0], [1]], parts_of([[1, 1], [0, 1]]))
        self.assertEqual([[0, 1]], parts_of([[0, 1], [1, 0]]))
        self.assertEqual([[0], [1], [2]], parts_of([[0] * 3 for row in range(3)]))

    def test_by_their_least_places(self):
        table = [[0, 0, 0, 1], [0, 0, 1, 0], [0, 1, 0, 0], [1, 0, 0, 0]]
        self.assertEqual([[0, 3], [1, 2]], parts_of(table))
        table = [[0] * 6 for row in range(6)]
        for i, j in ((5, 0), (0, 5), (4, 1), (1, 3), (3, 4), (5, 2)):
            table[i][j] = 1
        self.assertEqual([[0, 5], [1, 3, 4], [2]], parts_of(table))

    def test_by_walks(self):
        for table in tables():
            told = check_own(self, parts_of, table)
            places = list(range(len(table)))
            self.assertEqual(places, sorted([place for part in told for place in part]))
            self.assertEqual(sorted(told), told)
            for part in told:
                self.assertEqual(sorted(part), part)
            for i in places:
                for j in places:
                    there = steps_needed(table, i, j) is not None
                    back = steps_needed(table, j, i) is not None
                    in_one = [part for part in told if i in part] == [part for part in told if j in part]
                    self.assertEqual(i == j or (there and back), in_one)


class WholeTest(unittest.TestCase):

    def test_a_single_place(self):
        self.assertIs(False, hangs_together([[0]]))
        self.assertIs(True, hangs_together([[1]]))
        self.assertIs(True, hangs_together([[40]]))

    def test_ordinary_ones(self):
        self.assertIs(True, hangs_together([[0, 1], [1, 0]]))
        self.assertIs(False, hangs_together([[1, 1], [0, 1]]))
        self.assertIs(False, hangs_together([[1, 0], [1, 1]]))
        self.assertIs(False, hangs_together([[1, 0], [0, 1]]))

    def test_by_walks(self):
        for table in tables():
            places = range(len(table))
            right = all([steps_needed(table, i, j) is not None for i in places for j in places])
            self.assertIs(right, check_own(self, hangs_together, table))

    def test_more_places_and_greater_numbers(self):
        table = [[THIRTY * entry for entry in row] for row in ring(9)]
        self.assertIs(True, hangs_together(table))
        self.assertIs(False, is_ring(table))
        self.assertEqual([list(range(9))], parts_of(table))
        self.assertEqual((9, list(range(9))), beat_of(table))


class RingTest(unittest.TestCase):

    def test_rings(self):
        for many in range(1, 7):
            self.assertIs(True, check_own(self, is_ring, ring(many)))
        self.assertIs(True, is_ring(renumbered(ring(4), [2, 0, 3, 1])))

    def test_two_rings_are_none(self):
        self.assertIs(False, is_ring([[1, 0], [0, 1]]))
        self.assertIs(False, is_ring([[0, 1, 0], [1, 0, 0], [0, 0, 1]]))

    def test_a_place_with_no_arrow_or_two(self):
        self.assertIs(False, is_ring([[0]]))
        self.assertIs(False, is_ring([[2]]))
        self.assertIs(False, is_ring([[0, 2], [1, 0]]))
        self.assertIs(False, is_ring([[1, 1], [1, 0]]))
        self.assertIs(False, is_ring([[0, 1], [0, 1]]))

    def test_by_walks_and_arrows(self):
        for table in tables():
            right = hangs_together(table) and [sum(row) for row in table] == [1] * len(table)
            self.assertIs(right, check_own(self, is_ring, table))


class BeatTest(unittest.TestCase):

    def check_beat(self, table):
        """The beat by the numbers of arrows of short closed walks; told is the tuple."""
        told = check_own(self, beat_of, table)
        self.assertIsInstance(told, tuple)
        beat, numbers = told
        places = range(len(table))
        closed = []
        for place in places:
            reached = {place}
            for steps in range(1, 2 * len(table) + 1):
                reached = {end for start in reached for end in places if table[start][end] > 0}
                if place in reached:
                    closed.append(steps)
        self.assertEqual(math.gcd(*closed), beat)
        self.assertEqual(0, numbers[0])
        self.assertEqual(len(table), len(numbers))
        for number in numbers:
            self.assertTrue(0 <= number < beat)
        for i in places:
            for j in places:
                if table[i][j] > 0:
                    self.assertEqual((numbers[i] + 1) % beat, numbers[j])
        return told

    def test_ordinary_ones(self):
        self.assertEqual((1, [0]), self.check_beat([[1]]))
        self.assertEqual((1, [0]), self.check_beat([[7]]))
        self.assertEqual((2, [0, 1]), self.check_beat([[0, 1], [3, 0]]))
        self.assertEqual((1, [0, 0]), self.check_beat([[1, 1], [1, 0]]))
        self.assertEqual((3, [0, 2, 1]), self.check_beat([[0, 0, 1], [1, 0, 0], [0, 1, 0]]))

    def test_the_place_nought_need_not_lie_on_the_short_walk(self):
        self.assertEqual((1, [0, 0]), self.check_beat([[0, 1], [1, 1]]))
        table = [[0, 1, 0, 0], [0, 0, 1, 0], [0, 1, 0, 1], [1, 0, 0, 0]]
        self.assertEqual((2, [0, 1, 0, 1]), self.check_beat(table))

    def test_walks_of_four_and_six_arrows(self):
        table = ring(6)
        table[3][0] = 1
        self.assertEqual((2, [0, 1, 0, 1, 0, 1]), self.check_beat(table))

    def test_rings_in_each_order(self):
        lot = chance(42)
        for many in range(1, 7):
            order = list(range(many))
            lot.shuffle(order)
            self.assertEqual(many, self.check_beat(renumbered(ring(many), order))[0])

    def test_many_tables(self):
        whole = [table for table in tables() if hangs_together(table)]
        self.assertGreater(len(whole), 50)
        for table in whole:
            self.check_beat(table)

    def test_not_whole(self):
        for table in ([[0]], [[1, 1], [0, 1]], [[0, 1], [0, 0]], [[1, 0], [0, 1]]):
            check_refused(self, NoWhole, beat_of, table)
        for table in tables():
            if not hangs_together(table):
                check_refused(self, NoWhole, beat_of, table)


if __name__ == "__main__":
    unittest.main()
