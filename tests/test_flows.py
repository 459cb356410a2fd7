"""Point [46], and [2] of the same function."""

import unittest

from foreverrows.errors import NoWhole, Ring
from foreverrows.flows import flow
from foreverrows.fulltables import raised, to_full
from foreverrows.groups import group_of, sign_of
from foreverrows.looker import move_done, moves_back, moves_done
from foreverrows.plainroads import plain_table
from tests.helper import chance, check_own, check_refused, flowing_tables, looping_tables, moves_by_chance

GREAT = 10 ** 60 + 1
RINGS = [[[1]], [[0, 1], [1, 0]], [[0, 0, 1], [1, 0, 0], [0, 1, 0]]]
UNWHOLE = [[[0]], [[1, 1], [0, 1]], [[2, 0], [0, 2]], [[0, 1, 0], [1, 0, 0], [0, 0, 1]]]


def wandered(lot, table, steps):
    """What drawn moves make of a table, held to four places and sixteen arrows."""
    for step in range(steps):
        fit = []
        for move in moves_by_chance(lot, table):
            after = move_done(table, move)
            if len(after) <= 4 and sum([sum(row) for row in after]) <= 16:
                fit.append(after)
        if fit:
            table = lot.choice(fit)
    return table


class FlowTest(unittest.TestCase):

    def check_flow(self, one, other):
        """What is told holds by itself; told is its first word."""
        told = check_own(self, flow, one, other)
        groups, signs = (group_of(one), group_of(other)), (sign_of(one), sign_of(other))
        if groups[0] != groups[1]:
            self.assertEqual(("group", *groups), told)
        elif signs[0] != signs[1]:
            self.assertEqual(("sign", *signs), told)
        else:
            self.assertEqual("road", told[0])
            self.assertEqual(2, len(told))
            self.check_road(one, other, told[1])
        return told[0]

    def check_road(self, one, other, moves):
        at = one
        for move in moves:
            self.assertIn(move[0], ("draw", "lay", "row", "column"))
            at = move_done(at, move)
        self.assertEqual(other, at)
        back = moves_back(one, moves)
        self.assertEqual(len(moves), len(back))
        self.assertEqual(one, moves_done(other, back))

    def test_road(self):
        self.assertEqual("road", self.check_flow([[2]], [[1, 1], [1, 0]]))
        self.assertEqual("road", self.check_flow([[1, 1], [1, 0]], [[2]]))
        self.assertEqual("road", self.check_flow([[2]], [[1, 1], [1, 1]]))
        self.assertEqual("road", self.check_flow([[3]], [[1, 2], [1, 1]]))
        self.assertEqual("road", self.check_flow([[0, 2], [2, 0]], [[4]]))
        # Seven, by one place and by four.
        self.assertEqual("road", self.check_flow([[8]], plain_table(4, [1, 1, 1, 7], -1)))

    def test_group(self):
        self.assertEqual(("group", ([], 0), ([2], 0)), check_own(self, flow, [[2]], [[3]]))
        self.assertEqual(("group", ([2], 0), ([], 1)), check_own(self, flow, [[3]], [[2, 1], [1, 2]]))
        self.assertEqual(("group", ([4], 0), ([2, 2], 0)),
                         flow(plain_table(2, [1, 4], 1), plain_table(2, [2, 2], 1)))
        # The groups come first, where the signs are unlike too.
        self.assertEqual(("group", ([2], 0), ([3], 0)), flow([[3]], plain_table(2, [1, 3], 1)))

    def test_sign(self):
        self.assertEqual(("sign", -1, 1), check_own(self, flow, [[2]], plain_table(2, [1, 1], 1)))
        self.assertEqual(("sign", 1, -1), flow(plain_table(3, [1, 2, 6], 1), plain_table(3, [1, 2, 6], -1)))
        self.assertEqual(("sign", 1, -1), flow([[2, 1, 0], [1, 1, 1], [1, 1, 2]], [[2]]))

    def test_beside_itself(self):
        for table in flowing_tables(261, 40):
            self.assertEqual("road", self.check_flow(table, [list(row) for row in table]))

    def test_beside_what_drawn_moves_made_of_it(self):
        lot = chance(262)
        places = set()
        for table in flowing_tables(263, 60):
            other = wandered(lot, table, 6)
            self.assertEqual("road", self.check_flow(table, other))
            places.add((len(table), len(other)))
        self.assertGreater(len([pair for pair in places if pair[0] != pair[1]]), 6)

    def test_drawn_tables(self):
        words = {}
        tables = flowing_tables(264, 30) + looping_tables(267, 30)
        for one in tables:
            for other in tables[::3]:
                word = self.check_flow(one, other)
                words[word] = words.get(word, 0) + 1
        self.assertGreater(min(words["road"], words["group"], words["sign"]), 10)

    def test_full_ones_that_were_told(self):
        for table in flowing_tables(265, 12):
            full = to_full(table)[1]
            for places in range(len(full), 6):
                self.assertEqual("road", self.check_flow(table, raised(full, places)[1]))
                self.assertEqual("road", self.check_flow(raised(full, places)[1], full))
        one = plain_table(2, [1, GREAT], 1)
        other = plain_table(5, [1, 1, 1, 1, GREAT], 1)
        self.assertEqual("road", self.check_flow(one, other))
        self.assertEqual("road", self.check_flow(other, one))
        self.assertEqual("road", self.check_flow(plain_table(3, [2, GREAT * 2, 0], 0),
                                                 plain_table(5, [1, 1, 2, GREAT * 2, 0], 0)))

    def test_no_whole_of_either(self):
        for table in UNWHOLE:
            for other in [[[2]], [[1, 1], [1, 0]]] + UNWHOLE + RINGS:
                check_refused(self, NoWhole, flow, table, other)
                check_refused(self, NoWhole, flow, other, table)

    def test_ring_of_either(self):
        for table in RINGS:
            for other in [[[2]], [[1, 1], [1, 0]]] + RINGS:
                check_refused(self, Ring, flow, table, other)
                check_refused(self, Ring, flow, other, table)


class OtherQuestionsTest(unittest.TestCase):

    def test_an_answer_is_the_same_behind_other_questions(self):
        tables = flowing_tables(266, 24)
        asked = list(zip(tables, tables[1:]))
        first = [flow(one, other) for one, other in asked]
        for (one, other), right in list(zip(asked, first))[::-1]:
            self.assertEqual(right, flow(one, other))


if __name__ == "__main__":
    unittest.main()
