"""Points [37] and [38], and [2] of the same functions."""

import unittest

from foreverrows.draws import draw_back, draw_done, row_drawn
from foreverrows.errors import NoMove
from foreverrows.rounds import rounds, rounds_walked
from tests.helper import arrows_in, chance, check_own, check_refused, small_table_by_chance

# No arrow leads from a place to itself but from 1.
WHEEL = [[0, 2, 1], [1, 1, 3], [2, 1, 0]]
GREAT = 10 ** 30


def can_be_drawn(table, p):
    coming = [row[p] for row in table]
    return len(table) > 1 and table[p][p] == 0 and sum(coming) > 0 and sum(table[p]) > 0


def made_draws(seed, many):
    """Tables with a drawing that can be done."""
    lot = chance(seed)
    made = []
    while len(made) < many:
        table = small_table_by_chance(lot)
        p = lot.randrange(len(table))
        table[p][p] = 0
        if can_be_drawn(table, p):
            made.append((table, ("draw", p)))
    return made


def made_lays(seed, many):
    """Tables with a laying that can be done."""
    lot = chance(seed)
    made = []
    while len(made) < many:
        table = small_table_by_chance(lot)
        ins = [lot.choice([0, 0, 1, 2]) for row in table]
        outs = [lot.choice([0, 0, 1, 2]) for row in table]
        fits = all([entry >= x * y for row, x in zip(table, ins) for entry, y in zip(row, outs)])
        if any(ins) and any(outs) and fits:
            made.append((table, ("lay", lot.randint(0, len(table)), ins, outs)))
    return made


def drawn_numbers(table, p):
    """What the arrows become, by the words of [37]: for each arrow, or pair of arrows through p, the new arrow."""
    arrows = arrows_in(table)
    places = [place for place in range(len(table)) if place != p]
    numbers = {}
    for i in places:
        for k in places:
            there = [(arrow,) for arrow in arrows if arrow[:2] == (i, k)]
            firsts = [arrow for arrow in arrows if arrow[:2] == (i, p)]
            seconds = [arrow for arrow in arrows if arrow[:2] == (p, k)]
            pairs = [(first, second) for first in firsts for second in seconds]
            for number, held in enumerate(there + sorted(pairs)):
                numbers[held] = (places.index(i), places.index(k), number)
    return numbers


def led_by_draw(table, p, row):
    """The row cut into single arrows and pairs through p, each led by itself."""
    numbers = drawn_numbers(table, p)
    row = list(row)
    if row[0][0] == p:
        row.append(row.pop(0))
    led = []
    while row:
        held = (row.pop(0),)
        if held[0][1] == p:
            held += (row.pop(0),)
        led.append(numbers[held])
    return led


def rows_of(table):
    """The rows of one to five arrows, where there are not too many."""
    return [row for n in range(1, 6) if rounds(table, n) <= 100 for row in rounds_walked(table, n)]


class DrawTest(unittest.TestCase):

    def test_ordinary_ones(self):
        self.assertEqual([[1]], draw_done([[0, 1], [1, 0]], ("draw", 0)))
        self.assertEqual([[1]], draw_done([[0, 1], [1, 0]], ("draw", 1)))
        self.assertEqual([[6]], draw_done([[0, 2], [3, 0]], ("draw", 1)))
        # At the first place and at the last one.
        self.assertEqual([[3, 4], [5, 2]], check_own(self, draw_done, WHEEL, ("draw", 0)))
        self.assertEqual([[2, 3], [7, 4]], check_own(self, draw_done, WHEEL, ("draw", 2)))

    def test_a_place_in_the_middle(self):
        table = [[1, 2, 0], [3, 0, 1], [0, 4, 2]]
        self.assertEqual([[7, 2], [12, 6]], check_own(self, draw_done, table, ("draw", 1)))

    def test_by_the_arrows(self):
        for table, move in made_draws(171, 200):
            told = check_own(self, draw_done, table, move)
            self.assertEqual(len(table) - 1, len(told))
            self.assertEqual(arrows_in(told), sorted(drawn_numbers(table, move[1]).values()))

    def test_great_numbers(self):
        self.assertEqual([[GREAT * GREAT]], draw_done([[0, GREAT], [GREAT, 0]], ("draw", 0)))

    def test_seven_places(self):
        table = [[int(i != j) for j in range(7)] for i in range(7)]
        self.assertEqual([[1 if i == j else 2 for j in range(6)] for i in range(6)], draw_done(table, ("draw", 6)))


class LayTest(unittest.TestCase):

    def test_ordinary_ones(self):
        self.assertEqual([[0, 2], [3, 0]], draw_done([[6]], ("lay", 1, [2], [3])))
        self.assertEqual([[0, 3], [2, 0]], draw_done([[6]], ("lay", 0, [2], [3])))
        self.assertEqual([[0, 3], [2, 1]], draw_done([[7]], ("lay", 0, [2], [3])))

    def test_at_the_first_place_the_last_one_and_the_next(self):
        table = [[3, 4], [5, 2]]
        right = [[0, 2, 1], [1, 1, 3], [2, 1, 0]]
        self.assertEqual(right, check_own(self, draw_done, table, ("lay", 0, [1, 2], [2, 1])))
        right = [[1, 1, 3], [2, 0, 1], [1, 2, 0]]
        self.assertEqual(right, check_own(self, draw_done, table, ("lay", 1, [1, 2], [2, 1])))
        right = [[1, 3, 1], [1, 0, 2], [2, 1, 0]]
        self.assertEqual(right, check_own(self, draw_done, table, ("lay", 2, [1, 2], [2, 1])))

    def test_just_enough_arrows(self):
        self.assertEqual([[0, 0, 2], [1, 0, 0], [0, 3, 0]], draw_done([[0, 6], [1, 0]], ("lay", 2, [2, 0], [0, 3])))

    def test_many_ones(self):
        """Drawn again, each laid place leads to the table again."""
        for table, move in made_lays(172, 200):
            told = check_own(self, draw_done, table, move)
            word, p, ins, outs = move
            self.assertEqual(outs[:p] + [0] + outs[p:], told[p])
            self.assertEqual(ins[:p] + [0] + ins[p:], [row[p] for row in told])
            self.assertEqual(table, draw_done(told, ("draw", p)))


class BackTest(unittest.TestCase):

    def test_ordinary_ones(self):
        self.assertEqual(("lay", 0, [1, 2], [2, 1]), check_own(self, draw_back, WHEEL, ("draw", 0)))
        self.assertEqual(("lay", 2, [1, 3], [2, 1]), check_own(self, draw_back, WHEEL, ("draw", 2)))
        self.assertEqual(("draw", 1), check_own(self, draw_back, [[6]], ("lay", 1, [2], [3])))

    def test_each_is_the_way_back_of_the_other(self):
        for table, move in made_draws(173, 150) + made_lays(174, 150):
            after = draw_done(table, move)
            back = check_own(self, draw_back, table, move)
            self.assertEqual({"draw": "lay", "lay": "draw"}[move[0]], back[0])
            self.assertEqual(table, draw_done(after, back))
            self.assertEqual(move, draw_back(after, back))


class RefusedTest(unittest.TestCase):

    def check_no_move(self, table, move):
        check_refused(self, NoMove, draw_done, table, move)
        check_refused(self, NoMove, draw_back, table, move)
        for row in rows_of(table)[:1]:
            check_refused(self, NoMove, row_drawn, table, move, row)

    def test_draw_of_a_place_that_is_none(self):
        for wrong in (-1, -2, 3, 4, GREAT, -GREAT):
            self.check_no_move(WHEEL, ("draw", wrong))

    def test_draw_with_an_arrow_to_itself(self):
        self.check_no_move(WHEEL, ("draw", 1))
        self.check_no_move([[1, 1], [1, 0]], ("draw", 0))

    def test_draw_of_the_only_place(self):
        self.check_no_move([[0]], ("draw", 0))
        self.check_no_move([[2]], ("draw", 0))

    def test_draw_without_an_arrow_to_it_or_from_it(self):
        self.check_no_move([[0, 1], [0, 1]], ("draw", 0))
        self.check_no_move([[0, 0], [1, 1]], ("draw", 0))
        self.check_no_move([[0, 0], [0, 1]], ("draw", 0))
        self.check_no_move([[1, 1], [0, 0]], ("draw", 1))
        self.check_no_move([[1, 0], [1, 0]], ("draw", 1))

    def test_lay_at_a_place_that_is_none(self):
        for wrong in (-1, 2, 3, GREAT, -GREAT):
            self.check_no_move([[6]], ("lay", wrong, [2], [3]))
        self.check_no_move([[3, 4], [5, 2]], ("lay", 3, [1, 2], [2, 1]))
        self.check_no_move([[3, 4], [5, 2]], ("lay", -1, [1, 2], [2, 1]))

    def test_lay_with_lists_of_another_length(self):
        table = [[3, 4], [5, 2]]
        for ins, outs in (([1], [2, 1]), ([1, 2], [2]), ([1, 2, 0], [2, 1]), ([1, 2], [2, 1, 0]), ([], [2, 1]),
                          ([1, 2], []), ([], [])):
            self.check_no_move(table, ("lay", 0, ins, outs))

    def test_lay_with_numbers_below_nought(self):
        table = [[30, 40], [50, 20]]
        for ins, outs in (([1, -1], [2, 1]), ([1, 2], [-1, 3]), ([-1, -1], [-1, -1]), ([-1, 0], [-1, 0])):
            self.check_no_move(table, ("lay", 0, ins, outs))

    def test_lay_with_noughts_alone(self):
        table = [[3, 4], [5, 2]]
        for ins, outs in (([0, 0], [2, 1]), ([1, 2], [0, 0]), ([0, 0], [0, 0])):
            self.check_no_move(table, ("lay", 1, ins, outs))

    def test_lay_with_too_few_arrows(self):
        self.check_no_move([[5]], ("lay", 0, [2], [3]))
        self.check_no_move([[3, 4], [5, 1]], ("lay", 0, [1, 2], [2, 1]))
        self.check_no_move([[3, 4], [3, 2]], ("lay", 0, [1, 2], [2, 1]))
        self.check_no_move([[1, 4], [5, 2]], ("lay", 2, [1, 2], [2, 1]))

    def test_other_moves(self):
        for move in (("swap", 0, 1), ("out", 0, [[(0, 1, 0)], [(0, 1, 1), (0, 2, 0)]]), ("in", 0, [[], []]),
                     ("join out", 0, 1), ("join in", 0, 1), ("row", 0, 1, 1), ("column", 0, 1, 1), ("Draw", 0),
                     ("", 0), ("drawn", 0), ("laid", 0, [1], [1])):
            self.check_no_move(WHEEL, move)


class RowTest(unittest.TestCase):

    def test_draw(self):
        # 1 to 0 and 0 to 1: behind the one arrow that is there, the pair of the second to and the first from.
        self.assertEqual([(0, 0, 1)], row_drawn(WHEEL, ("draw", 0), [(1, 0, 0), (0, 1, 0)]))
        self.assertEqual([(0, 0, 2)], row_drawn(WHEEL, ("draw", 0), [(1, 0, 0), (0, 1, 1)]))
        row = [(1, 2, 2), (2, 0, 1), (0, 1, 1), (1, 1, 0)]
        self.assertEqual([(0, 1, 2), (1, 0, 4), (0, 0, 0)], check_own(self, row_drawn, WHEEL, ("draw", 0), row))

    def test_draw_where_the_list_begins_at_the_place(self):
        row = [(0, 1, 1), (1, 1, 0), (1, 2, 2), (2, 0, 1)]
        right = [(0, 0, 0), (0, 1, 2), (1, 0, 4)]
        self.assertEqual(right, check_own(self, row_drawn, WHEEL, ("draw", 0), row))
        self.assertEqual([(0, 0, 1)], row_drawn(WHEEL, ("draw", 0), [(0, 1, 0), (1, 0, 0)]))

    def test_draw_several_times_through_the_place(self):
        row = [(0, 1, 0), (1, 0, 0), (0, 2, 0), (2, 0, 0), (0, 2, 0), (2, 0, 1)]
        right = [(0, 1, 3), (1, 1, 0), (1, 0, 3)]
        self.assertEqual(right, check_own(self, row_drawn, WHEEL, ("draw", 0), row))

    def test_draw_not_through_the_place(self):
        row = [(1, 2, 1), (2, 1, 0), (1, 1, 0)]
        self.assertEqual([(0, 1, 1), (1, 0, 0), (0, 0, 0)], row_drawn(WHEEL, ("draw", 0), row))

    def test_lay(self):
        table = [[7]]
        move = ("lay", 0, [2], [3])
        self.assertEqual([(1, 1, 0)], row_drawn(table, move, [(0, 0, 0)]))
        for number in range(6):
            right = [(1, 0, number // 3), (0, 1, number % 3)]
            self.assertEqual(right, check_own(self, row_drawn, table, move, [(0, 0, 1 + number)]))
        row = [(0, 0, 6), (0, 0, 0), (0, 0, 1)]
        self.assertEqual([(0, 1, 1), (1, 0, 2), (0, 0, 0), (0, 1, 0), (1, 0, 0)],
                         row_drawn(table, ("lay", 1, [2], [3]), row))

    def test_draw_by_the_arrows(self):
        lengths = set()
        for table, move in made_draws(175, 120):
            for row in rows_of(table)[:60]:
                led = row_drawn(table, move, row)
                self.assertEqual(led_by_draw(table, move[1], row), led)
                lengths.add(len(row) - len(led))
        self.assertLessEqual({0, 1, 2}, lengths)

    def test_lay_by_the_arrows(self):
        """It is the one list that begins elsewhere than at the place and that the way back leads to the row."""
        lengths = set()
        for table, move in made_lays(176, 120):
            after = draw_done(table, move)
            for row in rows_of(table)[:40]:
                led = check_own(self, row_drawn, table, move, row)
                self.assertEqual(row, led_by_draw(after, move[1], led))
                self.assertNotEqual(move[1], led[0][0])
                self.assertEqual(led[-1][1], led[0][0])
                lengths.add(len(led) - len(row))
        self.assertLessEqual({0, 1, 2}, lengths)

    def test_draw_and_its_way_back(self):
        turned = 0
        for table, move in made_draws(177, 120):
            after, back = draw_done(table, move), draw_back(table, move)
            for row in rows_of(table)[:40]:
                led = row_drawn(after, back, check_own(self, row_drawn, table, move, row))
                right = row[1:] + row[:1] if row[0][0] == move[1] else row
                turned += right != row
                self.assertEqual(right, led)
        self.assertGreater(turned, 10)

    def test_great_numbers(self):
        table = [[0, GREAT], [GREAT, 0]]
        row = [(0, 1, GREAT - 1), (1, 0, GREAT - 2)]
        led = row_drawn(table, ("draw", 1), row)
        self.assertEqual([(0, 0, GREAT * (GREAT - 1) + GREAT - 2)], led)
        self.assertEqual(row, row_drawn([[GREAT * GREAT]], ("lay", 1, [GREAT], [GREAT]), led))


class OtherQuestionsTest(unittest.TestCase):

    def test_an_answer_is_the_same_behind_other_questions(self):
        asked = made_draws(178, 40) + made_lays(179, 40)
        first = [(draw_done(table, move), draw_back(table, move)) for table, move in asked]
        for (table, move), right in list(zip(asked, first))[::-1]:
            self.assertEqual(right, (draw_done(table, move), draw_back(table, move)))


if __name__ == "__main__":
    unittest.main()
