"""Point [3], over the whole program."""

import unittest

from foreverrows.additions import addition_back, addition_done, row_added
from foreverrows.draws import draw_back, draw_done, row_drawn
from foreverrows.flows import flow
from foreverrows.groups import group_of, sign_of
from foreverrows.leastnets import least_net
from foreverrows.likeness import same_rows
from foreverrows.looker import move_back, move_done, moves_back
from foreverrows.readers import reads
from foreverrows.rounds import round_polynomial, rounds, rounds_by, rounds_walked
from foreverrows.splitrows import row_split, row_split_back
from foreverrows.windows import reader_of
from tests.helper import (
    NINE_WORDS, chance, flowing_tables, looping_tables, moves_by_chance, table_by_chance, whole_readers,
)


def comes_round(table, row):
    """Whether it is a list of arrows of the table that comes round."""
    arrows = all([0 <= k < table[i][j] for i, j, k in row])
    return len(row) > 0 and arrows and all([one[1] == other[0] for one, other in zip(row, row[1:] + row[:1])])


def turns_of(row):
    """The lists of one row, begun anywhere."""
    return [row[at:] + row[:at] for at in range(len(row))]


def led_there_and_back(table, move, row):
    """The row behind the move, and behind the way back."""
    if move[0] in ("draw", "lay"):
        led = row_drawn(table, move, row)
        return (led, row_drawn(draw_done(table, move), draw_back(table, move), led))
    if move[0] in ("row", "column"):
        led = row_added(table, move, row)
        return (led, row_added(addition_done(table, move), addition_back(table, move), led))
    led = row_split(table, move, row)
    return (led, row_split_back(table, move, led))


class RoadTest(unittest.TestCase):

    def check_gone(self, table, moves, end):
        """One by one, with the same group and sign at each place."""
        right = (group_of(table), sign_of(table))
        for move in moves:
            table = move_done(table, move)
            self.assertEqual(right, (group_of(table), sign_of(table)))
        self.assertEqual(end, table)

    def test_there_and_back(self):
        roads = 0
        tables = flowing_tables(291, 16) + looping_tables(292, 16)
        for one in tables:
            for other in tables[::4]:
                alike = group_of(one) == group_of(other) and sign_of(one) == sign_of(other)
                told = flow(one, other)
                self.assertEqual(alike, told[0] == "road")
                self.assertEqual(told[0], flow(other, one)[0])
                if alike:
                    self.check_gone(one, told[1], other)
                    self.check_gone(other, moves_back(one, told[1]), one)
                    roads += one != other
        self.assertGreater(roads, 10)


class RowTest(unittest.TestCase):

    def test_each_row_is_led_and_back_to_itself(self):
        lot = chance(293)
        words = {}
        for table in flowing_tables(294, 40):
            moves = moves_by_chance(lot, table)
            asked = [(table, move) for move in moves]
            asked += [(move_done(table, move), move_back(table, move)) for move in moves]
            for thing in asked:
                self.check_rows(lot, *thing)
                words[thing[1][0]] = words.get(thing[1][0], 0) + 1
        self.assertEqual(NINE_WORDS, set(words))
        self.assertGreater(min(words.values()), 20)

    def check_rows(self, lot, table, move):
        after = move_done(table, move)
        rows = [row for n in range(1, 5) if rounds(table, n) <= 300 for row in rounds_walked(table, n)]
        for row in lot.sample(rows, min(6, len(rows))):
            led, back = led_there_and_back(table, move, row)
            self.assertTrue(comes_round(after, led), (table, move, row))
            self.assertIn(back, turns_of(row))


class RoundsTest(unittest.TestCase):

    def test_three_ways(self):
        lot = chance(295)
        gone = 0
        for time in range(60):
            table = table_by_chance(lot)
            polynomial = round_polynomial(table)
            for n in range(1, 25):
                many = rounds(table, n)
                self.assertEqual(many, rounds_by(polynomial, n))
                if n <= 8 and many <= 300:
                    rows = rounds_walked(table, n)
                    self.assertEqual(many, len(rows))
                    self.assertTrue(all([comes_round(table, row) for row in rows]))
                    gone += 1
        self.assertGreater(gone, 100)

    def test_no_move_but_draws_and_additions_changes_them(self):
        lot = chance(296)
        for table in flowing_tables(297, 30):
            for move in moves_by_chance(lot, table):
                if move[0] in ("swap", "out", "in", "join out", "join in"):
                    after = move_done(table, move)
                    self.assertEqual([rounds(table, n) for n in range(1, 9)], [rounds(after, n) for n in range(1, 9)])


class LeastNetsTest(unittest.TestCase):

    def test_the_same_just_where_the_rows_are(self):
        words = {}
        readers = whole_readers(298, 40)
        for world in ((2, ["bb"]), (2, ["aa"]), (2, []), (3, ["ab", "ca"]), (2, ["bbb"])):
            reader = reader_of(*world)[1]
            if reader[0] <= 6 and len(reader[1]) <= 30:
                readers.append(reader)
        for one in readers:
            for other in readers:
                told = same_rows(one, other)
                self.assertEqual(told == ("same",), least_net(one) == least_net(other))
                if told[0] == "word":
                    both = (reads(one, told[1]), reads(other, told[1]))
                    self.assertEqual((told[2] == 0, told[2] == 1), both)
                words[told[0]] = words.get(told[0], 0) + 1
        self.assertGreater(words["same"], len(readers))
        self.assertGreater(words["word"], 100)


if __name__ == "__main__":
    unittest.main()
