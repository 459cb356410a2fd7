"""Point [36], and [2] of the same functions."""

import itertools
import unittest

from foreverrows.errors import NoMove
from foreverrows.rounds import rounds, rounds_walked
from foreverrows.splitrows import row_split, row_split_back
from foreverrows.splits import split_back, split_done
from tests.helper import (
    chance, check_own, check_refused, small_table_by_chance, split_related, splittings_by_chance,
)

MIDDLE = [[0, 2, 0], [1, 2, 1], [1, 1, 0]]
OUT = ("out", 1, [[(1, 0, 0), (1, 1, 1)], [(1, 2, 0)], [(1, 1, 0)]])
IN = ("in", 1, [[(0, 1, 1)], [(2, 1, 0), (1, 1, 0)], [(0, 1, 0), (1, 1, 1)]])
GREAT = 10 ** 30


def comes_round(row):
    return all([one[1] == other[0] for one, other in zip(row, row[1:] + row[:1])])


def made_moves(seed, many):
    """Tables and moves of all five words, with rows that come round."""
    lot = chance(seed)
    made = []
    while len(made) < many:
        table = small_table_by_chance(lot)
        moves = splittings_by_chance(lot, table)
        if len(table) > 1:
            moves.append(("swap", *lot.sample(range(len(table)), 2)))
        for move in moves:
            made.append((table, move, rows_of(lot, table)))
            after = split_done(table, move)
            made.append((after, split_back(table, move), rows_of(lot, after)))
    return made


def rows_of(lot, table):
    """Up to six rows, of one to four arrows."""
    rows = []
    for n in range(1, 5):
        if rounds(table, n) <= 300:
            rows += rounds_walked(table, n)
    return lot.sample(rows, min(6, len(rows)))


def rows_related(choices):
    """All lists that come round of which each arrow is one of its choices."""
    return [list(row) for row in itertools.product(*choices) if comes_round(row)]


class RowSplitTest(unittest.TestCase):

    def check_led(self, table, move, row):
        """There and back; told is the row to which it is led."""
        led = check_own(self, row_split, table, move, row)
        self.assertEqual(row, check_own(self, row_split_back, table, move, led))
        return led

    def test_swap(self):
        row = [(0, 1, 1), (1, 1, 0), (1, 2, 0), (2, 0, 0)]
        right = [(2, 1, 1), (1, 1, 0), (1, 0, 0), (0, 2, 0)]
        self.assertEqual(right, self.check_led(MIDDLE, ("swap", 0, 2), row))
        right = [(1, 0, 1), (0, 0, 0), (0, 2, 0), (2, 1, 0)]
        self.assertEqual(right, self.check_led(MIDDLE, ("swap", 0, 1), row))

    def test_out_once_through_the_place(self):
        self.assertEqual([(0, 1, 1), (1, 0, 0)], self.check_led(MIDDLE, OUT, [(0, 1, 1), (1, 0, 0)]))
        right = [(0, 3, 0), (3, 2, 0), (2, 0, 0)]
        self.assertEqual(right, self.check_led(MIDDLE, OUT, [(0, 1, 0), (1, 2, 0), (2, 0, 0)]))

    def test_out_several_times_through_the_place(self):
        row = [(0, 1, 1), (1, 1, 0), (1, 1, 1), (1, 2, 0), (2, 1, 0), (1, 0, 0)]
        right = [(0, 4, 1), (4, 1, 0), (1, 3, 0), (3, 2, 0), (2, 1, 0), (1, 0, 0)]
        self.assertEqual(right, self.check_led(MIDDLE, OUT, row))

    def test_out_begins_or_ends_at_the_place(self):
        # The last arrow ends at the piece of the first one.
        self.assertEqual([(3, 2, 0), (2, 3, 0)], self.check_led(MIDDLE, OUT, [(1, 2, 0), (2, 1, 0)]))
        self.assertEqual([(2, 3, 0), (3, 2, 0)], self.check_led(MIDDLE, OUT, [(2, 1, 0), (1, 2, 0)]))
        right = [(4, 3, 0), (3, 2, 0), (2, 4, 0)]
        self.assertEqual(right, self.check_led(MIDDLE, OUT, [(1, 1, 0), (1, 2, 0), (2, 1, 0)]))

    def test_out_of_one_arrow(self):
        self.assertEqual([(4, 4, 0)], self.check_led(MIDDLE, OUT, [(1, 1, 0)]))
        self.assertEqual([(1, 1, 0)], self.check_led(MIDDLE, OUT, [(1, 1, 1)]))

    def test_in_several_times_through_the_place(self):
        row = [(0, 1, 1), (1, 1, 0), (1, 1, 1), (1, 2, 0), (2, 1, 0), (1, 0, 0)]
        right = [(0, 1, 0), (1, 3, 0), (3, 4, 0), (4, 2, 0), (2, 3, 0), (3, 0, 0)]
        self.assertEqual(right, self.check_led(MIDDLE, IN, row))

    def test_in_begins_or_ends_at_the_place(self):
        # The first arrow begins at the piece of the last one.
        self.assertEqual([(4, 0, 0), (0, 4, 0)], self.check_led(MIDDLE, IN, [(1, 0, 0), (0, 1, 0)]))
        self.assertEqual([(0, 4, 0), (4, 0, 0)], self.check_led(MIDDLE, IN, [(0, 1, 0), (1, 0, 0)]))

    def test_in_of_one_arrow(self):
        self.assertEqual([(3, 3, 0)], self.check_led(MIDDLE, IN, [(1, 1, 0)]))
        self.assertEqual([(4, 4, 0)], self.check_led(MIDDLE, IN, [(1, 1, 1)]))

    def test_not_through_the_place(self):
        table = [[2, 0], [0, 2]]
        for word in ("out", "in"):
            move = (word, 0, [[(0, 0, 1)], [(0, 0, 0)]])
            row = [(1, 1, 1), (1, 1, 0), (1, 1, 1)]
            self.assertEqual(row, self.check_led(table, move, row))

    def test_numbered_in_the_order_of_the_arrows(self):
        """Not in the order in which the piece names them."""
        table = [[0, 4], [1, 0]]
        move = ("out", 0, [[(0, 1, 3), (0, 1, 0)], [(0, 1, 2), (0, 1, 1)]])
        for k, right in ((0, (0, 1, 0)), (3, (0, 1, 1)), (1, (2, 1, 0)), (2, (2, 1, 1))):
            self.assertEqual([right, (1, right[0], 0)], self.check_led(table, move, [(0, 1, k), (1, 0, 0)]))

    def test_joinings(self):
        table = split_done(MIDDLE, OUT)
        # Those of the place 1 come first, then those of 3 and 4.
        self.assertEqual([(1, 1, 1)], self.check_led(table, ("join out", 1, 2), [(4, 4, 0)]))
        self.assertEqual([(1, 1, 0)], self.check_led(table, ("join out", 1, 2), [(1, 1, 0)]))
        row = [(0, 4, 1), (4, 3, 0), (3, 2, 0), (2, 0, 0)]
        self.assertEqual([(0, 1, 1), (1, 1, 1), (1, 2, 0), (2, 0, 0)], self.check_led(table, ("join out", 1, 2), row))
        table = split_done(MIDDLE, IN)
        row = [(0, 4, 0), (4, 3, 0), (3, 4, 0), (4, 0, 0)]
        self.assertEqual([(0, 1, 1), (1, 1, 0), (1, 1, 1), (1, 0, 0)], self.check_led(table, ("join in", 1, 2), row))

    def test_by_the_arrows(self):
        """There is just one list that comes round of arrows that stand for those of the row."""
        words = {}
        for table, move, rows in made_moves(161, 300):
            related = split_related(table, move)
            for row in rows:
                choices = [[new for new in related if old in related[new]] for old in row]
                self.assertEqual([self.check_led(table, move, row)], rows_related(choices))
                words[move[0]] = words.get(move[0], 0) + 1
        self.assertEqual({"swap", "out", "in", "join out", "join in"}, set(words))
        self.assertGreater(min(words.values()), 50)

    def test_each_row_is_led_to_just_one(self):
        for table, move, rows in made_moves(162, 120):
            after = split_done(table, move)
            for n in (1, 2, 3):
                if rounds(table, n) <= 300:
                    led = [row_split(table, move, row) for row in rounds_walked(table, n)]
                    self.assertEqual(rounds_walked(after, n), sorted(led))

    def test_by_the_way_back_to_arrows_of_the_same_places(self):
        other = 0
        for table, move, rows in made_moves(163, 150):
            after, back = split_done(table, move), split_back(table, move)
            for row in rows:
                told = row_split(after, back, row_split(table, move, row))
                self.assertEqual([arrow[:2] for arrow in row], [arrow[:2] for arrow in told])
                other += told != row
                if move[0] in ("swap", "join out", "join in"):
                    self.assertEqual(row, told)
        self.assertGreater(other, 0)

    def test_great_tables(self):
        table = [[GREAT, 0, GREAT], [5, 0, 5], [1, GREAT, 1]]
        row = [(0, 2, GREAT - 1), (2, 1, GREAT - 1), (1, 0, 4)]
        right = [(0, 0, GREAT - 1), (0, 1, GREAT - 1), (1, 0, 4)]
        self.assertEqual(right, self.check_led(table, ("join out", 0, 1), row))
        self.assertEqual([(0, 0, GREAT)], self.check_led(table, ("join out", 0, 1), [(2, 2, 0)]))
        turned = [list(column) for column in zip(*table)]
        self.assertEqual([(0, 0, GREAT)], self.check_led(turned, ("join in", 0, 1), [(2, 2, 0)]))


class BackTest(unittest.TestCase):

    def test_by_the_arrows(self):
        for table, move, rows in made_moves(164, 200):
            related = split_related(table, move)
            for n in (1, 2, 3):
                if rounds(table, n) <= 60:
                    for row in rounds_walked(split_done(table, move), n):
                        told = check_own(self, row_split_back, table, move, row)
                        self.assertEqual([told], rows_related([related[new] for new in row]))
                        self.assertEqual(row, row_split(table, move, told))


class RefusedTest(unittest.TestCase):

    def check_no_move(self, table, move, row):
        check_refused(self, NoMove, row_split, table, move, row)
        check_refused(self, NoMove, row_split_back, table, move, row)

    def test_what_cannot_be_done(self):
        row = [(1, 1, 0)]
        for move in (("swap", 0, 3), ("swap", -1, 0), ("swap", 1, 1), ("out", 3, OUT[2]), ("out", 1, OUT[2][:2]),
                     ("out", 1, [OUT[2][0]]), ("out", 1, OUT[2] + [[]]), ("out", 1, OUT[2] + OUT[2][:1]),
                     ("out", 1, IN[2]), ("in", -1, IN[2]), ("in", 1, IN[2][:2]), ("in", 1, OUT[2]),
                     ("in", 1, IN[2] + [[]]), ("join out", 0, 1), ("join out", 0, 0), ("join out", 2, 1),
                     ("join in", 0, 1), ("join in", 1, 2), ("join in", 3, 1)):
            self.check_no_move(MIDDLE, move, row)
        self.check_no_move([[1, 1], [0, 0]], ("join out", 0, 1), [(0, 0, 0)])
        self.check_no_move([[1, 0], [1, 0]], ("join in", 0, 1), [(0, 0, 0)])

    def test_other_moves(self):
        for move in (("draw", 0), ("lay", 0, [1, 0, 0], [0, 1, 0]), ("row", 0, 1, 1), ("column", 0, 1, 1),
                     ("join", 0, 1), ("join-out", 0, 1)):
            self.check_no_move(MIDDLE, move, [(1, 1, 0)])


class OtherQuestionsTest(unittest.TestCase):

    def test_an_answer_is_the_same_behind_other_questions(self):
        asked = [(table, move, row) for table, move, rows in made_moves(165, 60) for row in rows]
        first = [row_split(*thing) for thing in asked]
        for (table, move, row), right in list(zip(asked, first))[::-1]:
            self.assertEqual(right, row_split(table, move, row))
            self.assertEqual(row, row_split_back(table, move, right))


if __name__ == "__main__":
    unittest.main()
