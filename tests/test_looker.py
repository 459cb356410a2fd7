"""Point [47], and [2] of the same functions."""

import unittest

from foreverrows.additions import addition_back, addition_done
from foreverrows.draws import draw_back, draw_done
from foreverrows.errors import NoMove
from foreverrows.groups import group_of, sign_of
from foreverrows.looker import move_back, move_done, moves_back, moves_done
from foreverrows.splits import split_back, split_done
from tests.helper import NINE_WORDS, chance, check_own, check_refused, flowing_tables, hangs_by_steps, moves_by_chance

GOLDEN = [[1, 1], [1, 0]]
ONES = [[1, 1, 1], [1, 1, 1], [1, 1, 1]]
GREAT = 10 ** 50

# A move of each word, of the table of ones, and what it leads to.
DONE = [
    (("swap", 0, 2), ONES, ("swap", 0, 2)),
    (("out", 0, [[(0, 2, 0)], [(0, 0, 0), (0, 1, 0)]]), [[0, 0, 1, 0], [1, 1, 1, 1], [1, 1, 1, 1], [1, 1, 0, 1]],
     ("join out", 0, 1)),
    (("in", 0, [[(2, 0, 0)], [(0, 0, 0), (1, 0, 0)]]), [[0, 1, 1, 1], [0, 1, 1, 1], [1, 1, 1, 0], [0, 1, 1, 1]],
     ("join in", 0, 1)),
    (("join out", 0, 1), [[2, 2], [1, 1]], ("out", 0, [[(0, 0, 0), (0, 1, 0)], [(0, 0, 1), (0, 1, 1)]])),
    (("join in", 0, 1), [[2, 1], [2, 1]], ("in", 0, [[(0, 0, 0), (1, 0, 0)], [(0, 0, 1), (1, 0, 1)]])),
    (("lay", 1, [1, 0, 0], [0, 0, 1]), [[1, 1, 1, 0], [0, 0, 0, 1], [1, 0, 1, 1], [1, 0, 1, 1]], ("draw", 1)),
    (("row", 0, 1, 2), [[3, 1, 3], [1, 1, 1], [1, 1, 1]], ("row", 0, 1, -2)),
    (("column", 0, 1, GREAT), [[1 + GREAT, 1, 1], [1, 1, 1], [1 + GREAT, 1, 1]], ("column", 0, 1, -GREAT)),
]
REFUSED = [
    ("swap", 0, 0), ("swap", 0, 3), ("out", 0, [[(0, 2, 0)], [(0, 0, 0)]]), ("in", 0, [[(2, 0, 0)], []]),
    ("join out", 0, 0), ("join out", 2, 1), ("join in", 0, 3), ("draw", 0), ("draw", -1), ("lay", 0, [1, 0], [0, 0, 1]),
    ("lay", 4, [1, 0, 0], [0, 0, 1]), ("lay", 0, [2, 0, 0], [0, 0, 1]), ("row", 0, 0, 1), ("row", 0, 1, 0),
    ("row", 0, 1, -2), ("column", 0, 3, 1), ("column", 0, 1, -2),
]
NO_WORDS = [
    ("join", 0, 1), ("join-out", 0, 1), ("", 0), ("Draw", 0), ("add", 0, 1, 1), ("rows", 0, 1, 1), ("split", 0, []),
    ("draw ", 0), ("lays", 0, [1], [1]), (0, 1, 2), (None, 0),
]


def walks_by_chance(seed, many, most):
    """Tables that hang together, each with moves that can be done one after another."""
    lot = chance(seed)
    made = []
    for table in flowing_tables(seed, many):
        moves = []
        at = table
        for step in range(lot.randint(1, most)):
            fit = [move for move in moves_by_chance(lot, at) if len(at) < 6 or move[0] not in ("out", "in", "lay")]
            # The words are drawn first, else the splittings would be far more than the others.
            word = lot.choice(sorted({move[0] for move in fit}))
            moves.append(lot.choice([move for move in fit if move[0] == word]))
            at = move_done(at, moves[-1])
        made.append((table, moves))
    return made


def by_module(table, move):
    """The table and the way back, by the module of the move's own word."""
    if move[0] in ("draw", "lay"):
        return (draw_done(table, move), draw_back(table, move))
    if move[0] in ("row", "column"):
        return (addition_done(table, move), addition_back(table, move))
    return (split_done(table, move), split_back(table, move))


class MoveTest(unittest.TestCase):

    def test_each_word(self):
        for move, after, back in DONE:
            self.assertEqual(after, check_own(self, move_done, ONES, move))
            self.assertEqual(back, check_own(self, move_back, ONES, move))
            self.assertEqual(ONES, check_own(self, move_done, after, back))
        self.assertEqual([[2]], check_own(self, move_done, GOLDEN, ("draw", 1)))
        self.assertEqual(("lay", 1, [1], [1]), check_own(self, move_back, GOLDEN, ("draw", 1)))
        self.assertEqual(NINE_WORDS, {move[0] for move, after, back in DONE} | {"draw"})

    def test_refused(self):
        for move in REFUSED + NO_WORDS:
            check_refused(self, NoMove, move_done, ONES, move)
            check_refused(self, NoMove, move_back, ONES, move)

    def test_as_told_in_its_point(self):
        words = set()
        for table, moves in walks_by_chance(241, 60, 6):
            for move in moves:
                after, back = by_module(table, move)
                self.assertEqual(after, check_own(self, move_done, table, move))
                self.assertEqual(back, check_own(self, move_back, table, move))
                words.add(move[0])
                table = after
        self.assertEqual(NINE_WORDS, words)


class MovesTest(unittest.TestCase):

    def test_no_moves(self):
        self.assertEqual(GOLDEN, check_own(self, moves_done, GOLDEN, []))
        self.assertEqual([], check_own(self, moves_back, GOLDEN, []))

    def test_several(self):
        moves = [("row", 0, 1, 2), ("join in", 1, 1), ("swap", 0, 1)]
        self.assertEqual([[2, 1], [4, 3]], check_own(self, moves_done, ONES, moves))
        pieces = [[(0, 1, 0), (1, 1, 0)], [(0, 1, 1), (0, 1, 2), (0, 1, 3), (1, 1, 1)]]
        told = check_own(self, moves_back, ONES, moves)
        self.assertEqual([("swap", 0, 1), ("in", 1, pieces), ("row", 0, 1, -2)], told)
        self.assertEqual(ONES, moves_done([[2, 1], [4, 3]], told))

    def test_one_that_cannot_be_done_at_each_place(self):
        good = [("row", 0, 1, 1), ("column", 1, 2, 3), ("swap", 0, 1), ("row", 2, 1, 1)]
        self.assertEqual(3, len(moves_done(ONES, good)))
        for wrong in (("swap", 0, 0), ("draw", 3), ("join", 0, 1), ("row", 0, 1, 0)):
            for at in range(len(good) + 1):
                moves = good[:at] + [wrong] + good[at:]
                check_refused(self, NoMove, moves_done, ONES, moves)
                check_refused(self, NoMove, moves_back, ONES, moves)

    def test_there_and_back(self):
        for table, moves in walks_by_chance(242, 60, 8):
            after = check_own(self, moves_done, table, moves)
            back = check_own(self, moves_back, table, moves)
            self.assertEqual(len(moves), len(back))
            self.assertEqual(table, moves_done(after, back))
            # Turned about twice they are as many again, and lead there again.
            self.assertEqual(after, moves_done(table, moves_back(after, back)))
            self.assertEqual(len(moves), len(moves_back(after, back)))

    def test_one_after_another(self):
        for table, moves in walks_by_chance(243, 40, 8):
            backs = []
            at = table
            for move in moves:
                backs.append(move_back(at, move))
                at = move_done(at, move)
            self.assertEqual(at, moves_done(table, moves))
            self.assertEqual(backs[::-1], moves_back(table, moves))

    def test_group_and_sign_stay(self):
        words = {}
        for table, moves in walks_by_chance(244, 80, 8):
            right = (group_of(table), sign_of(table))
            at = table
            for move in moves:
                at = move_done(at, move)
                self.assertTrue(hangs_by_steps(at))
                self.assertEqual(right, (group_of(at), sign_of(at)), (table, moves))
                words[move[0]] = words.get(move[0], 0) + 1
        self.assertEqual(NINE_WORDS, set(words))
        self.assertGreater(min(words.values()), 10)


class OtherQuestionsTest(unittest.TestCase):

    def test_an_answer_is_the_same_behind_other_questions(self):
        asked = walks_by_chance(245, 30, 5)
        first = [(moves_done(table, moves), moves_back(table, moves)) for table, moves in asked]
        for (table, moves), right in list(zip(asked, first))[::-1]:
            self.assertEqual(right, (moves_done(table, moves), moves_back(table, moves)))


if __name__ == "__main__":
    unittest.main()
