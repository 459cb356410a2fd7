"""Point [43], and [2] of the same functions."""

import unittest

from foreverrows.additions import addition_done
from foreverrows.draws import draw_done
from foreverrows.errors import NoWhole, Ring
from foreverrows.fulltables import raised, to_full
from foreverrows.groups import group_of, sign_of
from tests.helper import chance, check_own, check_refused, flowing_tables, is_full

GREAT = 10 ** 40 + 9


def gone_through(table, moves):
    """The table at the end of draws, lays and additions."""
    for move in moves:
        table = draw_done(table, move) if move[0] in ("draw", "lay") else addition_done(table, move)
    return table


def full_tables(seed, many):
    """Full tables of one to five places."""
    lot = chance(seed)
    made = []
    while len(made) < many:
        places = lot.randint(1, 5)
        most = lot.choice([1, 3, GREAT])
        made.append([[lot.randint(1, most) + int(i == j) for j in range(places)] for i in range(places)])
    return made


class ToFullTest(unittest.TestCase):

    def check_full(self, table):
        """Each move is of the words told, and they lead to the full table. Told are the moves."""
        moves, full = check_own(self, to_full, table)
        for move in moves:
            self.assertIn(move[0], ("draw", "row"))
            self.assertIn(move[3:], ((), (1,)))
        self.assertEqual(full, gone_through(table, moves))
        self.assertTrue(is_full(full), full)
        self.assertEqual(group_of(table), group_of(full))
        self.assertEqual(sign_of(table), sign_of(full))
        return moves

    def test_ordinary_ones(self):
        self.assertEqual(([("draw", 1)], [[2]]), to_full([[1, 1], [1, 0]]))
        self.assertEqual(([], [[2]]), to_full([[2]]))
        self.check_full([[1, 1], [1, 1]])
        self.check_full([[0, 2], [1, 0]])
        self.check_full([[1, 1, 0], [0, 1, 1], [1, 0, 1]])
        self.check_full([[1, 1, 0, 0], [0, 1, 1, 0], [0, 0, 1, 1], [1, 0, 0, 1]])

    def test_full_ones(self):
        for table in full_tables(231, 30):
            self.assertEqual(([], table), check_own(self, to_full, table))

    def test_one_arrow_more_than_a_ring(self):
        for places in (1, 2, 3, 4):
            for i in range(places):
                for j in range(places):
                    table = [[int((one + 1) % places == other) for other in range(places)] for one in range(places)]
                    table[i][j] += 1
                    self.check_full(table)

    def test_many_ones(self):
        words = set()
        places = set()
        for table in flowing_tables(232, 150):
            moves = self.check_full(table)
            words.add(tuple(sorted({move[0] for move in moves})))
            places.add(len(table))
        self.assertEqual({(), ("draw",), ("row",), ("draw", "row")}, words)
        self.assertEqual({1, 2, 3, 4}, places)

    def test_all_of_two_places(self):
        for code in range(3 ** 4):
            table = [[code % 3, code // 3 % 3], [code // 9 % 3, code // 27]]
            if table[0][1] and table[1][0] and table != [[0, 1], [1, 0]]:
                self.check_full(table)

    def test_six_places(self):
        self.check_full([[int(i == j or (i + 1) % 6 == j) for j in range(6)] for i in range(6)])

    def test_no_whole(self):
        for table in ([[0]], [[1, 1], [0, 1]], [[2, 0], [0, 2]], [[0, 1], [0, 2]], [[0, 0], [0, 0]], [[1, 0], [0, 1]],
                      [[0, 1, 0], [1, 0, 0], [0, 0, 1]], [[1, 1, 1], [1, 1, 1], [0, 0, 2]]):
            check_refused(self, NoWhole, to_full, table)

    def test_ring(self):
        for table in ([[1]], [[0, 1], [1, 0]], [[0, 0, 1], [1, 0, 0], [0, 1, 0]],
                      [[0, 0, 1, 0], [0, 0, 0, 1], [0, 1, 0, 0], [1, 0, 0, 0]]):
            check_refused(self, Ring, to_full, table)


class RaisedTest(unittest.TestCase):

    def check_raised(self, full, places):
        moves, told = check_own(self, raised, full, places)
        for move in moves:
            self.assertIn(move[0], ("lay", "row"))
            self.assertIn(move[3:] if move[0] == "row" else (1,), ((1,),))
        self.assertEqual(places - len(full), len([move for move in moves if move[0] == "lay"]))
        self.assertEqual(told, gone_through(full, moves))
        self.assertEqual([places] * places, [len(row) for row in told])
        self.assertTrue(is_full(told), told)
        self.assertEqual(group_of(full), group_of(told))
        self.assertEqual(sign_of(full), sign_of(told))

    def test_to_as_many_places(self):
        for full in full_tables(233, 20):
            self.assertEqual(([], full), check_own(self, raised, full, len(full)))

    def test_the_least_ones(self):
        for places in range(1, 5):
            least = [[1 + int(i == j) for j in range(places)] for i in range(places)]
            for more in range(places, 6):
                self.check_raised(least, more)

    def test_to_each_greater_number(self):
        for full in full_tables(234, 30):
            for places in range(len(full), 6):
                self.check_raised(full, places)

    def test_full_ones_that_were_told(self):
        for table in flowing_tables(235, 30):
            moves, full = to_full(table)
            for places in range(len(full), 6):
                self.check_raised(full, places)


class OtherQuestionsTest(unittest.TestCase):

    def test_an_answer_is_the_same_behind_other_questions(self):
        asked = flowing_tables(236, 30)
        first = [(to_full(table), raised(to_full(table)[1], 5)) for table in asked]
        for table, right in list(zip(asked, first))[::-1]:
            self.assertEqual(right, (to_full(table), raised(to_full(table)[1], 5)))


if __name__ == "__main__":
    unittest.main()
