"""Point [29], and [2] of the same function."""

import itertools
import unittest

from foreverrows.errors import NotOneWay
from foreverrows.markrounds import mark_rounds
from foreverrows.readers import one_way
from foreverrows.rounds import rounds
from tests.helper import chance, check_own, check_refused, ends_of_word, reader_by_chance, whole_readers

EVEN = (2, [(0, "a", 0), (0, "b", 1), (1, "b", 0)])
FREE = (1, [(0, mark, 0) for mark in "abcd"])
TURN_AND_SWAP = (6, sorted([(place, "a", (place + 1) % 6) for place in range(6)] + [(0, "b", 1), (1, "b", 0)]))


def count_marks(reader, n):
    """By all lists of marks: gone often enough from all places, places are left just where a walk never ends."""
    marks = sorted({mark for start, mark, end in reader[1]})
    found = 0
    for parts in itertools.product(marks, repeat=n):
        places = frozenset(range(reader[0]))
        for time in range(reader[0]):
            places = ends_of_word(reader, places, parts)
        found += len(places) > 0
    return found


class MarkRoundsTest(unittest.TestCase):

    def test_ordinary_ones(self):
        self.assertEqual([2, 2, 5, 6, 12], [mark_rounds(EVEN, n) for n in range(1, 6)])
        self.assertEqual([4 ** n for n in range(1, 9)], [mark_rounds(FREE, n) for n in range(1, 9)])

    def test_one_row_of_marks_by_several_walks(self):
        # Each of the six places tells the one row of marks, by walks that come round in six steps.
        ring = (6, [(place, "a", (place + 1) % 6) for place in range(6)])
        self.assertEqual([1] * 8, [mark_rounds(ring, n) for n in range(1, 9)])
        still = (6, [(place, "a", place) for place in range(6)])
        self.assertEqual([1] * 8, [check_own(self, mark_rounds, still, n) for n in range(1, 9)])
        both = (2, [(0, "a", 1), (0, "b", 0), (1, "a", 0), (1, "b", 1)])
        self.assertEqual([2 ** n for n in range(1, 9)], [mark_rounds(both, n) for n in range(1, 9)])

    def test_marks_that_lead_two_places_to_one(self):
        reader = (2, [(0, "a", 0), (0, "b", 1), (1, "a", 0), (1, "b", 1)])
        self.assertEqual([2 ** n for n in range(1, 9)], [mark_rounds(reader, n) for n in range(1, 9)])

    def test_none_come_round(self):
        for reader in ((1, []), (6, []), (3, [(0, "a", 1), (1, "b", 2)])):
            self.assertEqual([0] * 8, [check_own(self, mark_rounds, reader, n) for n in range(1, 9)])

    def test_by_all_lists_of_marks(self):
        lot = chance(121)
        sizes = set()
        for time in range(150):
            reader = reader_by_chance(lot, lot.randint(1, 4), True)
            sizes.add(reader[0])
            for n in range(1, 4):
                self.assertEqual(count_marks(reader, n), mark_rounds(reader, n))
            self.assertEqual(count_marks(reader, 4), check_own(self, mark_rounds, reader, 4))
        self.assertEqual({1, 2, 3, 4, 5, 6}, sizes)

    def test_eight_steps(self):
        lot = chance(122)
        for time in range(40):
            reader = reader_by_chance(lot, 2, True)
            for n in (5, 6, 7, 8):
                self.assertEqual(count_marks(reader, n), mark_rounds(reader, n))
        for n in range(1, 9):
            self.assertEqual(count_marks(TURN_AND_SWAP, n), mark_rounds(TURN_AND_SWAP, n))
        self.assertEqual(count_marks(EVEN, 8), check_own(self, mark_rounds, EVEN, 8))

    def test_readers_that_hang_together(self):
        for reader in whole_readers(123, 40):
            if one_way(reader):
                for n in (1, 3, 4):
                    self.assertEqual(count_marks(reader, n), mark_rounds(reader, n))

    def test_each_arrow_its_own_mark(self):
        """Then rows of marks are rows of the table."""
        reader = (3, [(0, "a", 1), (1, "b", 2), (1, "c", 0), (2, "d", 0)])
        for n in range(1, 9):
            self.assertEqual(rounds([[0, 1, 0], [1, 0, 1], [1, 0, 0]], n), mark_rounds(reader, n))

    def test_not_one_way(self):
        for reader in ((2, [(0, "a", 0), (0, "a", 1)]), (2, [(0, "a", 0), (1, "c", 0), (1, "c", 1)]),
                       (6, [(place, "d", end) for place in range(2) for end in range(6)])):
            for n in (1, 8):
                check_refused(self, NotOneWay, mark_rounds, reader, n)

    def test_an_answer_is_the_same_behind_other_questions(self):
        lot = chance(124)
        asked = [(reader_by_chance(lot, 3, True), lot.randint(1, 8)) for time in range(60)]
        first = [mark_rounds(reader, n) for reader, n in asked]
        self.assertEqual(first[::-1], [mark_rounds(reader, n) for reader, n in asked[::-1]])


if __name__ == "__main__":
    unittest.main()
