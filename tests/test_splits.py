"""Points [33], [34] and [35], and [2] of the same functions."""

import unittest

from foreverrows.errors import NoMove
from foreverrows.rounds import rounds
from foreverrows.splits import split_back, split_done
from tests.helper import (
    arrows_in, chance, check_own, check_refused, small_table_by_chance, split_related, splittings_by_chance,
    table_of_arrows,
)

GOLDEN = [[1, 1], [1, 0]]
# From the place 1 arrows lead to itself and to both others, and likewise to it.
MIDDLE = [[0, 2, 0], [1, 2, 1], [1, 1, 0]]
OUT = ("out", 1, [[(1, 0, 0), (1, 1, 1)], [(1, 2, 0)], [(1, 1, 0)]])
IN = ("in", 1, [[(0, 1, 1)], [(2, 1, 0), (1, 1, 0)], [(0, 1, 0), (1, 1, 1)]])
GREAT = 10 ** 30
OTHER_MOVES = [
    ("draw", 0), ("lay", 0, [1, 0, 0], [0, 1, 0]), ("row", 0, 1, 1), ("column", 0, 1, 1), ("join", 0, 1), ("", 0, 1),
    ("join-out", 0, 1), ("Swap", 0, 1), ("split", 0, 1), ("inn", 0, 1),
]


def made_moves(seed, many):
    """Tables and moves of all five words that can be done."""
    lot = chance(seed)
    made = []
    while len(made) < many:
        table = small_table_by_chance(lot)
        places = list(range(len(table)))
        if len(table) > 1:
            made.append((table, ("swap", *lot.sample(places, 2))))
        for move in splittings_by_chance(lot, table):
            made.append((table, move))
            after = table_of_arrows(list(split_related(table, move)))
            made.append((after, ("join " + move[0], move[1], len(move[2]) - 1)))
    return made


class DoneTest(unittest.TestCase):

    def test_swap(self):
        self.assertEqual([[0, 1], [1, 1]], split_done(GOLDEN, ("swap", 0, 1)))
        self.assertEqual([[0, 1], [1, 1]], split_done(GOLDEN, ("swap", 1, 0)))
        table = [[1, 2, 3], [4, 5, 6], [7, 8, 9]]
        self.assertEqual([[9, 8, 7], [6, 5, 4], [3, 2, 1]], check_own(self, split_done, table, ("swap", 0, 2)))
        self.assertEqual([[1, 3, 2], [7, 9, 8], [4, 6, 5]], split_done(table, ("swap", 2, 1)))

    def test_out(self):
        self.assertEqual([[1, 1], [1, 1]], split_done([[2]], ("out", 0, [[(0, 0, 1)], [(0, 0, 0)]])))
        right = [[0, 2, 0, 2, 2], [1, 1, 0, 1, 1], [1, 1, 0, 1, 1], [0, 0, 1, 0, 0], [0, 1, 0, 1, 1]]
        self.assertEqual(right, check_own(self, split_done, MIDDLE, OUT))

    def test_in(self):
        self.assertEqual([[1, 1], [1, 1]], split_done([[2]], ("in", 0, [[(0, 0, 1)], [(0, 0, 0)]])))
        right = [[0, 1, 0, 0, 1], [1, 0, 1, 1, 1], [1, 0, 0, 1, 0], [1, 0, 1, 1, 1], [1, 0, 1, 1, 1]]
        self.assertEqual(right, check_own(self, split_done, MIDDLE, IN))

    def test_an_arrow_to_itself_leads_into_each_piece(self):
        table = [[3]]
        pieces = [[(0, 0, 2)], [(0, 0, 0), (0, 0, 1)]]
        self.assertEqual([[1, 1], [2, 2]], split_done(table, ("out", 0, pieces)))
        self.assertEqual([[1, 2], [1, 2]], split_done(table, ("in", 0, pieces)))

    def test_pieces_in_another_order(self):
        table = [[0, 2], [1, 0]]
        self.assertEqual([[0, 1, 0], [1, 0, 1], [0, 1, 0]], split_done(table, ("out", 0, [[(0, 1, 0)], [(0, 1, 1)]])))
        self.assertEqual([[0, 1, 0], [1, 0, 1], [0, 1, 0]], split_done(table, ("out", 0, [[(0, 1, 1)], [(0, 1, 0)]])))
        table = [[1, 1], [1, 0]]
        self.assertEqual([[1, 0, 1], [1, 0, 1], [0, 1, 0]], split_done(table, ("out", 0, [[(0, 0, 0)], [(0, 1, 0)]])))
        self.assertEqual([[0, 1, 0], [1, 0, 1], [1, 0, 1]], split_done(table, ("out", 0, [[(0, 1, 0)], [(0, 0, 0)]])))

    def test_each_arrow_a_piece(self):
        pieces = [[arrow] for arrow in arrows_in(MIDDLE) if arrow[0] == 1]
        told = split_done(MIDDLE, ("out", 1, pieces[::-1]))
        self.assertEqual(6, len(told))
        # From the last piece on, which is the first place: the last arrow first.
        self.assertEqual([[0, 0, 1], [0, 1, 0], [0, 1, 0], [1, 0, 0]], [told[place][:3] for place in (1, 3, 4, 5)])

    def test_join_out(self):
        self.assertEqual([[2]], split_done([[1, 1], [1, 1]], ("join out", 0, 1)))
        table = [[0, 2, 0, 2, 2], [1, 1, 0, 1, 1], [1, 1, 0, 1, 1], [0, 0, 1, 0, 0], [0, 1, 0, 1, 1]]
        self.assertEqual(MIDDLE, check_own(self, split_done, table, ("join out", 1, 2)))
        # The last place alone: the one ahead of it stays.
        right = [[0, 2, 0, 2], [1, 2, 0, 2], [1, 1, 0, 1], [0, 0, 1, 0]]
        self.assertEqual(right, split_done(table, ("join out", 1, 1)))
        right = [[0, 2, 0, 2], [1, 1, 0, 1], [1, 1, 0, 1], [0, 1, 1, 1]]
        self.assertEqual(right, split_done(table, ("join out", 3, 1)))

    def test_join_in(self):
        self.assertEqual([[5]], split_done([[2, 3], [2, 3]], ("join in", 0, 1)))
        table = [[0, 1, 0, 0, 1], [1, 0, 1, 1, 1], [1, 0, 0, 1, 0], [1, 0, 1, 1, 1], [1, 0, 1, 1, 1]]
        self.assertEqual(MIDDLE, check_own(self, split_done, table, ("join in", 1, 2)))

    def test_by_the_arrows(self):
        """Each new arrow stands for an old one, numbered in their order."""
        words = {}
        for table, move in made_moves(151, 400):
            related = split_related(table, move)
            told = check_own(self, split_done, table, move)
            self.assertEqual(arrows_in(told), sorted(related))
            came = len(move[2]) - 1 if move[0] in ("out", "in") else -move[2] if move[0] != "swap" else 0
            self.assertEqual([len(table) + came] * (len(table) + came), [len(row) for row in told])
            words[move[0]] = words.get(move[0], 0) + 1
            # As many rows come round as ahead.
            self.assertEqual([rounds(table, n) for n in range(1, 6)], [rounds(told, n) for n in range(1, 6)])
        self.assertEqual({"swap", "out", "in", "join out", "join in"}, set(words))
        self.assertGreater(min(words.values()), 30)

    def test_told_tables(self):
        seven = [[1] * 7 for row in range(7)]
        self.assertEqual([[1] * 6] * 5 + [[2] * 6], split_done(seven, ("join out", 5, 1)))
        great = [[GREAT, 0, GREAT], [5, 0, 5], [1, GREAT, 1]]
        self.assertEqual([[GREAT + 1, GREAT], [5, 0]], split_done(great, ("join out", 0, 1)))
        self.assertEqual([[0, 5, 5], [0, GREAT, GREAT], [GREAT, 1, 1]], split_done(great, ("swap", 0, 1)))
        # The place 1 alone has few arrows: the others are not gone through.
        move = ("in", 0, [[(0, 0, 0)], [(1, 0, 0)]])
        self.assertEqual([[1, GREAT, 0], [0, GREAT, 1], [1, GREAT, 0]], split_done([[1, GREAT], [1, GREAT]], move))


class RefusedTest(unittest.TestCase):

    def check_no_move(self, table, move):
        check_refused(self, NoMove, split_done, table, move)
        check_refused(self, NoMove, split_back, table, move)

    def test_a_place_that_is_none(self):
        for wrong in (-1, 3, 4, GREAT, -GREAT):
            self.check_no_move(MIDDLE, ("swap", wrong, 0))
            self.check_no_move(MIDDLE, ("swap", 0, wrong))
            self.check_no_move(MIDDLE, ("out", wrong, OUT[2]))
            self.check_no_move(MIDDLE, ("in", wrong, IN[2]))
            self.check_no_move(MIDDLE, ("join out", wrong, 1))
            self.check_no_move(MIDDLE, ("join in", wrong, 1))
        self.check_no_move([[1] * 3] * 3, ("join out", -1, 1))
        self.check_no_move([[1] * 3] * 3, ("join in", -2, 2))
        self.check_no_move([[1] * 3] * 3, ("join in", 3, 1))

    def test_one_place_twice(self):
        for place in range(3):
            self.check_no_move(MIDDLE, ("swap", place, place))
        self.check_no_move([[2]], ("swap", 0, 0))

    def test_too_few_pieces(self):
        arrows = [arrow for arrow in arrows_in(MIDDLE) if arrow[0] == 1]
        self.check_no_move(MIDDLE, ("out", 1, [arrows]))
        self.check_no_move(MIDDLE, ("out", 1, []))
        self.check_no_move(MIDDLE, ("in", 1, [[arrow for arrow in arrows_in(MIDDLE) if arrow[1] == 1]]))
        self.check_no_move(MIDDLE, ("in", 1, []))
        self.check_no_move([[1]], ("out", 0, [[(0, 0, 0)]]))

    def test_a_piece_without_arrows(self):
        self.check_no_move(MIDDLE, ("out", 1, OUT[2] + [[]]))
        self.check_no_move(MIDDLE, ("out", 1, [[]] + OUT[2]))
        self.check_no_move(MIDDLE, ("in", 1, IN[2] + [[]]))
        self.check_no_move([[0]], ("out", 0, [[], []]))
        self.check_no_move([[0]], ("in", 0, [[], []]))
        self.check_no_move([[1]], ("out", 0, [[(0, 0, 0)], []]))

    def test_an_arrow_in_no_piece(self):
        self.check_no_move(MIDDLE, ("out", 1, OUT[2][:2]))
        self.check_no_move(MIDDLE, ("in", 1, IN[2][1:]))
        self.check_no_move([[GREAT]], ("out", 0, [[(0, 0, 0)], [(0, 0, 1)]]))

    def test_an_arrow_twice(self):
        self.check_no_move(MIDDLE, ("out", 1, [OUT[2][0], OUT[2][1] * 2, OUT[2][2]]))
        self.check_no_move(MIDDLE, ("out", 1, OUT[2] + OUT[2][:1]))
        self.check_no_move(MIDDLE, ("in", 1, IN[2][:2] + [IN[2][2] + IN[2][0]]))
        # As many arrows as lead from the place, one of them twice in the stead of another one.
        self.check_no_move([[2]], ("out", 0, [[(0, 0, 0)], [(0, 0, 0)]]))
        self.check_no_move([[2]], ("in", 0, [[(0, 0, 1)], [(0, 0, 1)]]))

    def test_an_arrow_that_is_none_of_the_place(self):
        for wrong in ((0, 1, 0), (2, 1, 0), (1, 0, 1), (1, 1, 2), (1, 1, -1), (1, 3, 0), (1, -1, 0), (-1, 2, 0)):
            self.check_no_move(MIDDLE, ("out", 1, OUT[2] + [[wrong]]))
            self.check_no_move(MIDDLE, ("out", 1, [OUT[2][0], OUT[2][1] + OUT[2][2][:-1] + [wrong]]))
        for wrong in ((1, 0, 0), (1, 2, 0), (0, 1, 2), (2, 1, -1), (3, 1, 0), (-1, 1, 0)):
            self.check_no_move(MIDDLE, ("in", 1, IN[2] + [[wrong]]))
            self.check_no_move(MIDDLE, ("in", 1, [IN[2][0], IN[2][1], [IN[2][2][0], wrong]]))
        # Pieces of the arrows that lead to the place for out, and the other way round.
        self.check_no_move(MIDDLE, ("out", 1, IN[2]))
        self.check_no_move(MIDDLE, ("in", 1, OUT[2]))

    def test_too_few_or_too_many_to_join(self):
        ones = [[1] * 4 for row in range(4)]
        for word in ("join out", "join in"):
            for p, m in ((0, 0), (0, -1), (0, 4), (0, 5), (1, 3), (2, 2), (3, 1), (3, 0), (0, GREAT), (2, -GREAT)):
                self.check_no_move(ones, (word, p, m))
            self.check_no_move([[1]], (word, 0, 1))
            self.check_no_move([[1]], (word, 0, 0))
            for p, m in ((0, 3), (1, 2), (2, 1), (0, 1)):
                self.assertEqual(4 - m, len(split_done(ones, (word, p, m))))

    def test_entries_that_are_not_the_same(self):
        self.check_no_move(GOLDEN, ("join out", 0, 1))
        self.check_no_move(GOLDEN, ("join in", 0, 1))
        # The columns are the same, the rows are not, and the other way round.
        table = [[2, 2], [1, 1]]
        self.assertEqual([[3]], split_done(table, ("join out", 0, 1)))
        self.check_no_move(table, ("join in", 0, 1))
        table = [[2, 1], [2, 1]]
        self.assertEqual([[3]], split_done(table, ("join in", 0, 1)))
        self.check_no_move(table, ("join out", 0, 1))
        # One of three, and in the row of another place alone.
        self.check_no_move([[1, 1, 1], [1, 1, 1], [1, 1, 2]], ("join out", 0, 2))
        self.check_no_move([[1, 1, 1], [1, 1, 1], [1, 2, 1]], ("join out", 0, 2))
        self.check_no_move([[1, 1, 0], [1, 1, 1], [1, 1, 1]], ("join out", 1, 1))

    def test_a_place_without_arrows(self):
        self.check_no_move([[1, 1], [0, 0]], ("join out", 0, 1))
        self.check_no_move([[0, 0], [1, 1]], ("join out", 0, 1))
        self.check_no_move([[0, 0], [0, 0]], ("join out", 0, 1))
        self.check_no_move([[1, 0], [1, 0]], ("join in", 0, 1))
        self.check_no_move([[0, 1], [0, 1]], ("join in", 0, 1))
        self.check_no_move([[1, 1, 1], [1, 1, 1], [0, 0, 0]], ("join out", 0, 2))
        self.check_no_move([[1, 0, 1], [1, 0, 1], [1, 0, 1]], ("join in", 0, 2))

    def test_other_moves(self):
        for move in OTHER_MOVES:
            self.check_no_move(MIDDLE, move)


class BackTest(unittest.TestCase):

    def test_swap(self):
        self.assertEqual(("swap", 2, 0), check_own(self, split_back, MIDDLE, ("swap", 2, 0)))

    def test_splittings(self):
        self.assertEqual(("join out", 1, 2), check_own(self, split_back, MIDDLE, OUT))
        self.assertEqual(("join in", 1, 2), check_own(self, split_back, MIDDLE, IN))

    def test_joinings(self):
        table = split_done(MIDDLE, OUT)
        right = ("out", 1, [[(1, 0, 0), (1, 1, 0)], [(1, 2, 0)], [(1, 1, 1)]])
        self.assertEqual(right, check_own(self, split_back, table, ("join out", 1, 2)))
        table = split_done(MIDDLE, IN)
        right = ("in", 1, [[(0, 1, 0)], [(1, 1, 0), (2, 1, 0)], [(0, 1, 1), (1, 1, 1)]])
        self.assertEqual(right, check_own(self, split_back, table, ("join in", 1, 2)))

    def test_it_leads_back(self):
        for table, move in made_moves(152, 300):
            back = check_own(self, split_back, table, move)
            after = split_done(table, move)
            self.assertEqual(table, split_done(after, back))
            there = {"swap": "swap", "out": "join out", "in": "join in", "join out": "out", "join in": "in"}
            self.assertEqual(there[move[0]], back[0])
            self.assertEqual(move[1], back[1])
            if back[0] in ("out", "in"):
                self.assertEqual([sorted(piece) for piece in back[2]], back[2])
                # The way back of the way back is the joining again.
                self.assertEqual(move, split_back(after, back))

    def test_pieces_by_the_arrows(self):
        """A piece has the arrows that the arrows of the joined place become."""
        for table, move in made_moves(153, 300):
            if move[0] not in ("join out", "join in"):
                continue
            related = split_related(table, move)
            at = 0 if move[0] == "join out" else 1
            joined = [move[1]] + list(range(len(table) - move[2], len(table)))
            right = [sorted([new for new in related if any([old[at] == place for old in related[new]])])
                     for place in joined]
            self.assertEqual(right, split_back(table, move)[2])


class OtherQuestionsTest(unittest.TestCase):

    def test_an_answer_is_the_same_behind_other_questions(self):
        asked = made_moves(154, 60)
        first = [(split_done(table, move), split_back(table, move)) for table, move in asked]
        for (table, move), right in list(zip(asked, first))[::-1]:
            self.assertEqual(right, (split_done(table, move), split_back(table, move)))


if __name__ == "__main__":
    unittest.main()
