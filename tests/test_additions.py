"""Points [41] and [42], and [2] of the same functions."""

import unittest

from foreverrows.additions import addition_back, addition_done, paper_of, row_added
from foreverrows.draws import draw_back, draw_done, row_drawn
from foreverrows.errors import NoMove
from foreverrows.rounds import rounds, rounds_walked
from foreverrows.splitrows import row_split, row_split_back
from foreverrows.splits import split_done
from tests.helper import added_by_arrows, chance, check_own, check_refused, small_table_by_chance

GREAT = 10 ** 60 + 3
THREE = [[1, 2, 0], [1, 1, 3], [2, 0, 1]]
OTHER_MOVES = [
    ("swap", 0, 1), ("out", 0, [[(0, 0, 0)], [(0, 1, 0), (0, 1, 1)]]), ("in", 0, [[], []]), ("join out", 0, 1),
    ("join in", 0, 1), ("draw", 0), ("lay", 0, [1, 0, 0], [0, 1, 0]), ("Row", 0, 1, 1), ("rows", 0, 1, 1),
    ("", 0, 1, 1), ("col", 0, 1, 1),
]


def turned(table):
    return [list(column) for column in zip(*table)]


def every_move(table, counts):
    places = range(len(table))
    return [(word, i, j, q) for word in ("row", "column") for i in places for j in places for q in counts]


def led_by_arrows(table, move):
    """The table to which a counted addition leads, one single one after another; None where it can't be done."""
    word, i, j, q = move
    if q < 0:
        return led_back_by_arrows(table, move)
    for time in range(q):
        table = added_by_arrows(table, word, i, j)
        if table is None:
            return None
    return table if q > 0 else None


def led_back_by_arrows(table, move):
    """The one table that can lead here: it differs in row or column i alone."""
    word, i, j, q = move
    if i == j:
        return None
    before = [list(row) for row in (table if word == "row" else turned(table))]
    for k in range(len(table)):
        before[i][k] += q * (before[j][k] - (1 if k == j else 0))
    if min(before[i]) < 0:
        return None
    before = before if word == "row" else turned(before)
    return before if led_by_arrows(before, (word, i, j, -q)) == table else None


def tables_by_chance(seed, many):
    lot = chance(seed)
    return [small_table_by_chance(lot) for time in range(many)]


def single_additions(seed, many):
    """Tables with single additions that can be done."""
    return [(table, move) for table in tables_by_chance(seed, many) for move in every_move(table, [1])
            if led_by_arrows(table, move) is not None]


def rows_of(lot, table):
    """Up to twelve rows, of one to five arrows."""
    rows = [row for n in range(1, 6) if rounds(table, n) <= 300 for row in rounds_walked(table, n)]
    return lot.sample(rows, min(12, len(rows)))


class DoneTest(unittest.TestCase):

    def test_row(self):
        # The last arrow from 0 to 1 goes; for the arrows from 1 to 0, to 1 and thrice to 2 such from 0 come.
        self.assertEqual([[2, 2, 3], [1, 1, 3], [2, 0, 1]], check_own(self, addition_done, THREE, ("row", 0, 1, 1)))
        self.assertEqual([[1, 2, 0], [3, 1, 3], [2, 0, 1]], addition_done(THREE, ("row", 1, 2, 1)))
        self.assertEqual([[1, 2, 0], [1, 1, 3], [2, 2, 1]], addition_done(THREE, ("row", 2, 0, 1)))

    def test_column(self):
        self.assertEqual([[3, 2, 0], [1, 1, 3], [2, 0, 1]], check_own(self, addition_done, THREE, ("column", 0, 1, 1)))
        # The last arrow from 0 to 1 goes; for the arrows from 0, from 1 and twice from 2 to 0 such to 1 come.
        self.assertEqual([[1, 2, 0], [1, 2, 3], [2, 2, 1]], addition_done(THREE, ("column", 1, 0, 1)))
        self.assertEqual([[1, 2, 0], [4, 1, 3], [2, 0, 1]], addition_done(THREE, ("column", 0, 2, 1)))

    def test_without_an_arrow_to_itself(self):
        table = [[0, 2], [3, 0]]
        self.assertEqual([[3, 1], [3, 0]], addition_done(table, ("row", 0, 1, 1)))
        self.assertEqual([[0, 2], [2, 2]], addition_done(table, ("row", 1, 0, 1)))
        self.assertEqual([[2, 2], [2, 0]], addition_done(table, ("column", 0, 1, 1)))

    def test_counts(self):
        self.assertEqual([[3, 2, 6], [1, 1, 3], [2, 0, 1]], check_own(self, addition_done, THREE, ("row", 0, 1, 2)))
        self.assertEqual([[5, 2, 0], [1, 1, 3], [2, 0, 1]], check_own(self, addition_done, THREE, ("column", 0, 1, 2)))
        many = GREAT
        right = [[1 + many, 2, 3 * many], [1, 1, 3], [2, 0, 1]]
        self.assertEqual(right, check_own(self, addition_done, THREE, ("row", 0, 1, many)))
        self.assertEqual(THREE, check_own(self, addition_done, right, ("row", 0, 1, -many)))
        right = [[1 + 2 * many, 2, 0], [1, 1, 3], [2, 0, 1]]
        self.assertEqual(right, check_own(self, addition_done, THREE, ("column", 0, 1, many)))
        self.assertEqual(THREE, check_own(self, addition_done, right, ("column", 0, 1, -many)))

    def test_below_nought(self):
        self.assertEqual(THREE, check_own(self, addition_done, [[2, 2, 3], [1, 1, 3], [2, 0, 1]], ("row", 0, 1, -1)))
        self.assertEqual(THREE, addition_done([[3, 2, 6], [1, 1, 3], [2, 0, 1]], ("row", 0, 1, -2)))
        self.assertEqual(THREE, addition_done([[5, 2, 0], [1, 1, 3], [2, 0, 1]], ("column", 0, 1, -2)))

    def test_by_the_arrows(self):
        """Of all additions of small tables: those that can be done, and those that can't."""
        told = {}
        for table in tables_by_chance(221, 60):
            for move in every_move(table, [-3, -2, -1, 0, 1, 2, 3]):
                right = led_by_arrows(table, move)
                told.setdefault((move[0], move[3], right is None), []).append(move)
                if right is None:
                    check_refused(self, NoMove, addition_done, table, move)
                    check_refused(self, NoMove, addition_back, table, move)
                else:
                    self.assertEqual(right, check_own(self, addition_done, table, move))
        for word in ("row", "column"):
            for q in (-3, -2, -1, 1, 2, 3):
                self.assertGreater(len(told[(word, q, False)]), 5, (word, q))
                self.assertGreater(len(told[(word, q, True)]), 5, (word, q))

    def test_more_places(self):
        table = [[2 if i == j else 1 for j in range(9)] for i in range(9)]
        right = [list(row) for row in table]
        right[8] = [GREAT + 1] * 8 + [GREAT + 2]
        self.assertEqual(right, addition_done(table, ("row", 8, 0, GREAT)))


class RefusedTest(unittest.TestCase):

    def check_no_move(self, table, move):
        """Each function refuses it, and refuses it of the table turned about, too."""
        if move[0] in ("row", "column"):
            other = ({"row": "column", "column": "row"}[move[0]],) + move[1:]
            asked = [(table, move), (turned(table), other)]
        else:
            asked = [(table, move)]
        for table, move in asked:
            check_refused(self, NoMove, addition_done, table, move)
            check_refused(self, NoMove, addition_back, table, move)
            check_refused(self, NoMove, paper_of, table, move)
            for row in rounds_walked(table, 1)[:1]:
                check_refused(self, NoMove, row_added, table, move, row)

    def test_i_is_j(self):
        for place in range(3):
            for q in (1, 2, -1):
                self.check_no_move([[3] * 3] * 3, ("row", place, place, q))

    def test_a_place_that_is_none(self):
        for wrong in (-1, -2, -3, 3, 4, GREAT, -GREAT):
            for q in (1, 2, -1):
                self.check_no_move([[3] * 3] * 3, ("row", 0, wrong, q))
                self.check_no_move([[3] * 3] * 3, ("row", wrong, 0, q))
        self.check_no_move([[3]], ("row", 0, 1, 1))

    def test_a_count_of_nought(self):
        self.check_no_move(THREE, ("row", 0, 1, 0))
        self.check_no_move(THREE, ("column", 0, 1, 0))
        self.check_no_move([[3] * 3] * 3, ("row", 0, 1, 0))

    def test_no_arrow_between_them(self):
        self.check_no_move(THREE, ("row", 0, 2, 1))
        self.check_no_move(THREE, ("row", 2, 1, 1))
        self.check_no_move(THREE, ("column", 2, 0, 1))
        self.check_no_move([[1, 0], [1, 5]], ("row", 0, 1, 1))

    def test_no_further_arrow(self):
        self.check_no_move([[1, 1], [1, 0]], ("row", 0, 1, 1))
        self.assertEqual([[2, 1], [1, 0]], addition_done([[1, 2], [1, 0]], ("row", 0, 1, 1)))
        # One from the place itself, or from a third one, is enough.
        self.assertEqual([[2, 1], [1, 1]], addition_done([[1, 1], [1, 1]], ("row", 0, 1, 1)))
        table = [[0, 1, 0], [0, 0, 1], [1, 1, 0]]
        self.assertEqual([[0, 0, 1], [0, 0, 1], [1, 1, 0]], addition_done(table, ("row", 0, 1, 1)))

    def test_none_from_the_other(self):
        self.check_no_move([[1, 2], [0, 0]], ("row", 0, 1, 1))
        self.check_no_move([[1, 1, 1], [0, 0, 0], [1, 1, 1]], ("row", 0, 1, 1))

    def test_the_first_single_one_can_be_done_and_not_the_last(self):
        table = [[0, 2], [3, 0]]
        self.assertEqual([[3, 1], [3, 0]], addition_done(table, ("row", 0, 1, 1)))
        # Of two arrows none is further when one is gone.
        self.check_no_move(table, ("row", 0, 1, 2))
        self.check_no_move(table, ("row", 0, 1, 3))
        self.check_no_move(table, ("row", 0, 1, GREAT))
        table = [[0, 2, 0], [3, 0, 0], [0, 1, 0]]
        self.assertEqual([[6, 0, 0], [3, 0, 0], [0, 1, 0]], addition_done(table, ("row", 0, 1, 2)))
        self.check_no_move(table, ("row", 0, 1, 3))
        table = [[0, GREAT, 0], [1, 0, 0], [0, 1, 0]]
        self.assertEqual([[GREAT, 0, 0], [1, 0, 0], [0, 1, 0]], addition_done(table, ("row", 0, 1, GREAT)))
        self.check_no_move(table, ("row", 0, 1, GREAT + 1))

    def test_nothing_leads_here(self):
        # Entries would be below 0; the arrow from i to j would not be there, or be the only one.
        self.check_no_move(THREE, ("row", 0, 1, -1))
        self.check_no_move(THREE, ("row", 0, 1, -GREAT))
        self.check_no_move([[5, 1], [1, 2]], ("row", 0, 1, -1))
        self.check_no_move([[5, 0], [1, 1]], ("row", 0, 1, -1))
        self.check_no_move([[5, 0], [1, 0]], ("row", 0, 1, -1))
        self.assertEqual([[5, 2], [1, 0]], addition_done([[6, 1], [1, 0]], ("row", 0, 1, -1)))
        self.assertEqual([[4, 1], [1, 1]], addition_done([[5, 1], [1, 1]], ("row", 0, 1, -1)))
        self.check_no_move([[5, 1], [0, 0]], ("row", 0, 1, -1))
        # Behind the first of two the last arrow to j would be gone from i alone.
        self.check_no_move([[6, 0], [3, 0]], ("row", 0, 1, -2))

    def test_other_moves(self):
        for move in OTHER_MOVES:
            self.check_no_move([[3] * 3] * 3, move)


class BackTest(unittest.TestCase):

    def test_ordinary_ones(self):
        self.assertEqual(("row", 0, 1, -1), check_own(self, addition_back, THREE, ("row", 0, 1, 1)))
        self.assertEqual(("column", 0, 1, -GREAT), check_own(self, addition_back, THREE, ("column", 0, 1, GREAT)))
        table = [[3, 2, 6], [1, 1, 3], [2, 0, 1]]
        self.assertEqual(("row", 0, 1, 2), check_own(self, addition_back, table, ("row", 0, 1, -2)))

    def test_it_leads_back(self):
        signs = {}
        for table in tables_by_chance(222, 80):
            for move in every_move(table, [-2, -1, 1, 2, 5]):
                if led_by_arrows(table, move) is not None:
                    back = check_own(self, addition_back, table, move)
                    after = addition_done(table, move)
                    self.assertEqual(move[:3] + (-move[3],), back)
                    self.assertEqual(table, addition_done(after, back))
                    self.assertEqual(move, addition_back(after, back))
                    signs[move[3] > 0] = signs.get(move[3] > 0, 0) + 1
        self.assertGreater(min(signs[True], signs[False]), 30)


class PaperTest(unittest.TestCase):

    def test_row(self):
        others = [(0, 1, 0), (1, 1, 0)]
        right = [("in", 1, [others, [(0, 1, 1)]]), ("draw", 3)]
        self.assertEqual(right, check_own(self, paper_of, THREE, ("row", 0, 1, 1)))

    def test_column(self):
        others = [(1, 1, 0), (1, 2, 0), (1, 2, 1), (1, 2, 2)]
        right = [("out", 1, [others, [(1, 0, 0)]]), ("draw", 3)]
        self.assertEqual(right, check_own(self, paper_of, THREE, ("column", 0, 1, 1)))
        others = [(1, 0, 0), (1, 1, 0), (1, 2, 0), (1, 2, 1)]
        right = [("out", 1, [others, [(1, 2, 2)]]), ("draw", 3)]
        self.assertEqual(right, check_own(self, paper_of, THREE, ("column", 2, 1, 1)))

    def test_it_comes_to_the_same(self):
        words = {}
        for table, move in single_additions(223, 80):
            paper = check_own(self, paper_of, table, move)
            splitting, drawing = paper
            self.assertEqual("in" if move[0] == "row" else "out", splitting[0])
            self.assertEqual(move[2], splitting[1])
            others, alone = splitting[2]
            gone = move[1:3] if move[0] == "row" else move[2:0:-1]
            self.assertEqual([(*gone, table[gone[0]][gone[1]] - 1)], alone)
            self.assertEqual(sorted(others), others)
            self.assertEqual(("draw", len(table)), drawing)
            after = draw_done(split_done(table, splitting), drawing)
            self.assertEqual(led_by_arrows(table, move), after)
            words[move[0]] = words.get(move[0], 0) + 1
        self.assertGreater(min(words["row"], words["column"]), 30)

    def test_counts_other_than_one(self):
        table = [[3] * 3 for row in range(3)]
        for q in (2, 3, GREAT):
            self.assertEqual(table[1:], addition_done(table, ("row", 0, 1, q))[1:])
            check_refused(self, NoMove, paper_of, table, ("row", 0, 1, q))
            check_refused(self, NoMove, paper_of, table, ("column", 0, 1, q))
        after = addition_done(table, ("row", 0, 1, 1))
        check_refused(self, NoMove, paper_of, after, ("row", 0, 1, -1))
        after = addition_done(table, ("column", 0, 1, 1))
        check_refused(self, NoMove, paper_of, after, ("column", 0, 1, -1))

    def test_other_entries_of_many_figures(self):
        table = [[GREAT, 1], [GREAT, 1]]
        right = [("in", 1, [[(1, 1, 0)], [(0, 1, 0)]]), ("draw", 2)]
        self.assertEqual(right, paper_of(table, ("row", 0, 1, 1)))


class RowAddedTest(unittest.TestCase):

    def check_led(self, table, move, row):
        """Led along the paper; and back the same row, begun perhaps one arrow later. Told is where it is led."""
        splitting, drawing = paper_of(table, move)
        middle = split_done(table, splitting)
        right = row_drawn(middle, drawing, row_split(table, splitting, row))
        led = check_own(self, row_added, table, move, row)
        self.assertEqual(right, led)
        after, back = addition_done(table, move), addition_back(table, move)
        returned = check_own(self, row_added, after, back, led)
        right = row_split_back(table, splitting, row_drawn(after, draw_back(middle, drawing), led))
        self.assertEqual(right, returned)
        self.assertIn(returned, (row, row[1:] + row[:1]))
        self.assertEqual(led, row_added(table, move, returned))
        return led

    def test_row_passes_once(self):
        move = ("row", 0, 1, 1)
        # The arrow that goes and the one behind it become one.
        self.assertEqual([(0, 0, 1)], self.check_led(THREE, move, [(0, 1, 1), (1, 0, 0)]))
        self.assertEqual([(0, 2, 2), (2, 0, 1)], self.check_led(THREE, move, [(0, 1, 1), (1, 2, 2), (2, 0, 1)]))
        self.assertEqual([(0, 1, 1), (1, 0, 0)], self.check_led(THREE, move, [(0, 1, 1), (1, 1, 0), (1, 0, 0)]))
        # The other arrow stays.
        self.assertEqual([(0, 1, 0), (1, 0, 0)], self.check_led(THREE, move, [(0, 1, 0), (1, 0, 0)]))

    def test_row_passes_several_times(self):
        row = [(0, 1, 1), (1, 0, 0), (0, 1, 0), (1, 1, 0), (1, 0, 0), (0, 1, 1), (1, 2, 0), (2, 0, 0)]
        right = [(0, 0, 1), (0, 1, 0), (1, 1, 0), (1, 0, 0), (0, 2, 0), (2, 0, 0)]
        self.assertEqual(right, self.check_led(THREE, ("row", 0, 1, 1), row))

    def test_row_does_not_pass(self):
        row = [(0, 0, 0), (0, 0, 0)]
        self.assertEqual(row, self.check_led(THREE, ("row", 0, 1, 1), row))
        row = [(1, 1, 0)]
        self.assertEqual(row, self.check_led(THREE, ("row", 0, 1, 1), row))

    def test_row_begins_or_ends_there(self):
        # The first arrow becomes one with the last, at the end.
        self.assertEqual([(0, 0, 1)], self.check_led(THREE, ("row", 0, 1, 1), [(1, 0, 0), (0, 1, 1)]))
        row = [(1, 2, 2), (2, 2, 0), (2, 0, 1), (0, 1, 1)]
        self.assertEqual([(2, 2, 0), (2, 0, 1), (0, 2, 2)], self.check_led(THREE, ("row", 0, 1, 1), row))
        row = [(1, 0, 0), (0, 1, 0)]
        self.assertEqual(row, self.check_led(THREE, ("row", 0, 1, 1), row))

    def test_column_passes(self):
        move = ("column", 0, 1, 1)
        # The arrow that goes and the one ahead of it become one.
        self.assertEqual([(0, 0, 1)], self.check_led(THREE, move, [(0, 1, 0), (1, 0, 0)]))
        self.assertEqual([(0, 0, 2)], self.check_led(THREE, move, [(0, 1, 1), (1, 0, 0)]))
        self.assertEqual([(0, 1, 1), (1, 0, 0)], self.check_led(THREE, move, [(0, 1, 1), (1, 1, 0), (1, 0, 0)]))
        row = [(0, 1, 1), (1, 0, 0), (0, 0, 0), (0, 1, 0), (1, 2, 1), (2, 0, 0), (0, 1, 0), (1, 0, 0)]
        right = [(0, 0, 2), (0, 0, 0), (0, 1, 0), (1, 2, 1), (2, 0, 0), (0, 0, 1)]
        self.assertEqual(right, self.check_led(THREE, move, row))

    def test_column_begins_or_ends_there(self):
        move = ("column", 0, 1, 1)
        self.assertEqual([(0, 0, 2)], self.check_led(THREE, move, [(1, 0, 0), (0, 1, 1)]))
        row = [(1, 0, 0), (0, 0, 0), (0, 1, 1)]
        self.assertEqual([(0, 0, 0), (0, 0, 2)], self.check_led(THREE, move, row))
        row = [(1, 2, 0), (2, 0, 0), (0, 1, 1)]
        self.assertEqual(row, self.check_led(THREE, move, row))

    def test_along_the_paper(self):
        lot = chance(224)
        seen = {}
        for table, move in single_additions(225, 60):
            for row in rows_of(lot, table):
                led = self.check_led(table, move, row)
                passed = len(row) - len(led)
                seen[(move[0], passed)] = seen.get((move[0], passed), 0) + 1
        for word in ("row", "column"):
            for passed in (0, 1, 2):
                self.assertGreater(seen[(word, passed)], 5)

    def test_each_row_of_the_new_table_is_led_back(self):
        """By the way back, and then by the addition, to the same list."""
        lot = chance(226)
        longer = 0
        for table, move in single_additions(227, 50):
            after, back = addition_done(table, move), addition_back(table, move)
            for row in rows_of(lot, after):
                led = check_own(self, row_added, after, back, row)
                longer += len(led) > len(row)
                self.assertEqual(row, row_added(table, move, led))
        self.assertGreater(longer, 50)

    def test_great_numbers(self):
        table = [[GREAT, GREAT], [GREAT, GREAT]]
        row = [(0, 1, GREAT - 1), (1, 0, GREAT - 2), (0, 1, GREAT - 2), (1, 0, GREAT - 1)]
        led = row_added(table, ("row", 0, 1, 1), row)
        self.assertEqual([(0, 0, 2 * GREAT - 2), (0, 1, GREAT - 2), (1, 0, GREAT - 1)], led)
        self.assertEqual(row, row_added(addition_done(table, ("row", 0, 1, 1)), ("row", 0, 1, -1), led))
        led = row_added(table, ("column", 0, 1, 1), row)
        self.assertEqual([(0, 1, GREAT - 1), (1, 0, GREAT - 2), (0, 0, 2 * GREAT - 2)], led)
        self.assertEqual(row, row_added(addition_done(table, ("column", 0, 1, 1)), ("column", 0, 1, -1), led))


class OtherQuestionsTest(unittest.TestCase):

    def test_an_answer_is_the_same_behind_other_questions(self):
        lot = chance(228)
        asked = [(table, move, row) for table, move in single_additions(229, 20) for row in rows_of(lot, table)[:2]]

        def answers(table, move, row):
            told = (addition_done(table, move), addition_back(table, move), paper_of(table, move))
            return told + (row_added(table, move, row),)

        first = [answers(*thing) for thing in asked]
        for thing, right in list(zip(asked, first))[::-1]:
            self.assertEqual(right, answers(*thing))


if __name__ == "__main__":
    unittest.main()
