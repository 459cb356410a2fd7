"""Points [44] and [45], and [2] of the same functions."""

import unittest

from foreverrows.additions import addition_done
from foreverrows.corners import corner_form
from foreverrows.errors import NoTable, NoWhole, Ring
from foreverrows.fulltables import raised, to_full
from foreverrows.groups import group_of, sign_of
from foreverrows.looker import move_done
from foreverrows.plainroads import plain_table, road_to_plain
from tests.helper import (
    by_minors, by_orders, chance, check_own, check_refused, flowing_tables, is_full, looping_tables,
)

GREAT = 10 ** 98 + 9


def less(table):
    return [[int(i == j) - entry for j, entry in enumerate(row)] for i, row in enumerate(table)]


def orders_by_chance(lot, places, most):
    """Orders that divide one another; perhaps some are 0 at the end."""
    orders = [lot.randint(1, most)]
    while len(orders) < places:
        orders.append(orders[-1] * lot.choice([1, 1, 2, 3, lot.randint(1, most)]))
    noughts = lot.choice([0, 0, 0, 1, 2])
    return orders[:max(1, places - noughts)] + [0] * min(noughts, places - 1)


def signs_of(orders):
    return [0] if orders[-1] == 0 else [1, -1]


def right_plain(table, places):
    """The plain table at which the road has to end, by the words of [45]."""
    corners = corner_form(less(table))[1]
    orders = [1] * (places - len(table)) + [row[at] for at, row in enumerate(corners)]
    whole = by_orders(less(table))
    return plain_table(places, orders, (whole > 0) - (whole < 0))


class PlainTableTest(unittest.TestCase):

    def test_by_the_words(self):
        self.assertEqual([[2, 1], [1, 6]], plain_table(2, [1, 4], 1))
        self.assertEqual([[2, 1], [5, 2]], plain_table(2, [1, 4], -1))
        self.assertEqual([[2, 1], [1, 2]], plain_table(2, [1, 0], 0))
        self.assertEqual([[4, 3, 3], [3, 10, 3], [3, 3, 16]], check_own(self, plain_table, 3, [3, 6, 12], -1))
        self.assertEqual([[4, 3, 3], [3, 10, 3], [15, 15, 4]], check_own(self, plain_table, 3, [3, 6, 12], 1))
        self.assertEqual([[3, 2, 2], [2, 5, 2], [2, 2, 3]], plain_table(3, [2, 2, 0], 0))
        right = [[2, 1, 1, 1], [1, 3, 1, 1], [1, 1, 3, 1], [1 + GREAT, 1 + GREAT, 1 + GREAT, 2]]
        self.assertEqual(right, check_own(self, plain_table, 4, [1, 1, 1, GREAT], -1))
        right[3] = [1, 1, 1, 2 + GREAT]
        self.assertEqual(right, check_own(self, plain_table, 4, [1, 1, 1, GREAT], 1))

    def test_group_and_sign(self):
        lot = chance(251)
        told = set()
        for places in (2, 3, 4, 5):
            for most in (1, 1, 2, 5, 12, 10 ** 20, GREAT):
                orders = orders_by_chance(lot, places, most)
                for sign in signs_of(orders):
                    table = check_own(self, plain_table, places, orders, sign)
                    self.assertEqual([places] * places, [len(row) for row in table])
                    self.assertTrue(is_full(table))
                    self.assertEqual(orders, by_minors(less(table)))
                    self.assertEqual(([order for order in orders if order > 1], orders.count(0)), group_of(table))
                    self.assertEqual(sign, sign_of(table))
                    told.add((places, sign))
        self.assertEqual({(places, sign) for places in (2, 3, 4, 5) for sign in (1, -1, 0)}, told)

    def test_orders_that_do_not_divide_one_another(self):
        for orders in ([2, 3], [4, 2], [2, 1], [GREAT, GREAT + 1]):
            check_refused(self, NoTable, plain_table, 2, orders, 1)
        for orders in ([1, 2, 3], [2, 3, 6], [1, 6, 4], [2, 4, 5]):
            check_refused(self, NoTable, plain_table, 3, orders, -1)
        # Nought divides nought alone.
        check_refused(self, NoTable, plain_table, 3, [1, 0, 4], 1)
        check_refused(self, NoTable, plain_table, 4, [1, 0, 2, 0], 0)

    def test_the_first_below_one(self):
        for orders in ([0, 0], [0, 4], [-1, 4], [-1, 0], [-2, -4]):
            for sign in (1, -1, 0):
                check_refused(self, NoTable, plain_table, 2, orders, sign)

    def test_one_below_nought(self):
        for orders in ([1, -1, 1], [1, 1, -1], [2, -4, 8], [1, -2, 0], [3, 3, -GREAT * 3]):
            for sign in (1, -1, 0):
                check_refused(self, NoTable, plain_table, 3, orders, sign)

    def test_a_sign_that_is_none(self):
        for sign in (2, -2, 3, GREAT, -GREAT):
            check_refused(self, NoTable, plain_table, 2, [1, 4], sign)
            check_refused(self, NoTable, plain_table, 2, [1, 0], sign)

    def test_a_sign_that_does_not_fit(self):
        check_refused(self, NoTable, plain_table, 2, [1, 4], 0)
        check_refused(self, NoTable, plain_table, 3, [1, 1, 1], 0)
        check_refused(self, NoTable, plain_table, 2, [1, 0], 1)
        check_refused(self, NoTable, plain_table, 2, [1, 0], -1)
        check_refused(self, NoTable, plain_table, 4, [1, 1, 0, 0], -1)

    def test_too_many_or_too_few_orders(self):
        for places, orders in ((2, []), (2, [1]), (2, [1, 1, 1]), (3, [1, 2]), (5, [1, 1, 1, 1]), (4, [1] * 5)):
            check_refused(self, NoTable, plain_table, places, orders, 1)


class RoadTest(unittest.TestCase):

    def check_road(self, table, places):
        """Each move is of the words told, and the road ends at the plain table. Told is the road."""
        road = check_own(self, road_to_plain, table, places)
        at = table
        for move in road:
            self.assertIn(move[0], ("draw", "lay", "row", "column"))
            at = move_done(at, move)
        self.assertEqual(right_plain(table, places), at)
        return road

    def check_roads(self, table):
        for places in range(max(2, len(table)), 6):
            self.check_road(table, places)

    def test_ordinary_ones(self):
        for table in ([[2]], [[3]], [[16]], [[1, 1], [1, 0]], [[1, 1], [1, 1]], [[0, 2], [2, 0]], [[2, 1], [1, 2]],
                      [[3, 2], [2, 3]], [[0, 1, 1], [1, 0, 1], [1, 1, 0]], [[1, 1, 0], [0, 1, 1], [1, 0, 1]]):
            self.check_roads(table)

    def test_many_ones(self):
        words = set()
        for table in flowing_tables(252, 60):
            for places in range(max(2, len(table)), 6):
                words.update([move[0] for move in self.check_road(table, places)])
        self.assertEqual({"draw", "lay", "row", "column"}, words)

    def test_all_signs(self):
        signs = {}
        for table in looping_tables(253, 60):
            self.check_roads(table)
            signs[sign_of(table)] = signs.get(sign_of(table), 0) + 1
        self.assertGreater(min(signs[1], signs[-1], signs[0]), 4)

    def test_full_ones_that_were_told(self):
        lot = chance(254)
        for table in flowing_tables(255, 20):
            full = to_full(table)[1]
            self.check_roads(full)
            self.check_roads(raised(full, 5)[1])
        for places in (2, 3, 4, 5):
            for most in (3, 10 ** 20, GREAT):
                orders = orders_by_chance(lot, places, most)
                for sign in signs_of(orders):
                    plain = plain_table(places, orders, sign)
                    self.check_roads(plain)
                    self.check_roads(addition_done(plain, ("row", 0, places - 1, GREAT)))

    def test_great_entries(self):
        lot = chance(256)
        for places in (2, 3, 4, 5):
            for most in (9, 10 ** 10, GREAT):
                table = [[lot.randint(1, most) + int(i == j) for j in range(places)] for i in range(places)]
                self.check_road(table, places)
                # Row by row the number that divides all is another one.
                numbers = [lot.randint(1, most) for row in table]
                table = [[x * lot.randint(1, 9) + int(i == j) for j in range(places)] for i, x in enumerate(numbers)]
                self.check_road(table, places)

    def test_rows_that_are_level_and_unlike(self):
        """As slow as Euclid's steps can be."""
        one, other = 1, 1
        while other < GREAT:
            one, other = other, one + other
        for places in (2, 3, 4):
            table = [[(one if i == 0 else other + i) + int(i == j) for j in range(places)] for i in range(places)]
            self.check_road(table, places)

    def test_of_the_plain_table_itself(self):
        for table in (plain_table(2, [1, 6], -1), plain_table(4, [2, 2, 4, 0], 0), plain_table(5, [1, 1, 3, 3, 6], 1)):
            self.check_roads(table)

    def test_no_whole(self):
        for table in ([[0]], [[1, 1], [0, 1]], [[2, 0], [0, 2]], [[1, 0], [0, 1]], [[0, 1, 0], [1, 0, 0], [0, 0, 1]]):
            for places in range(max(2, len(table)), 6):
                check_refused(self, NoWhole, road_to_plain, table, places)

    def test_ring(self):
        for table in ([[1]], [[0, 1], [1, 0]], [[0, 0, 1], [1, 0, 0], [0, 1, 0]],
                      [[0, 0, 1, 0], [0, 0, 0, 1], [0, 1, 0, 0], [1, 0, 0, 0]]):
            for places in range(max(2, len(table)), 6):
                check_refused(self, Ring, road_to_plain, table, places)


class OtherQuestionsTest(unittest.TestCase):

    def test_an_answer_is_the_same_behind_other_questions(self):
        asked = flowing_tables(257, 20)
        first = [road_to_plain(table, 4) for table in asked]
        for table, right in list(zip(asked, first))[::-1]:
            self.assertEqual(right, road_to_plain(table, 4))


if __name__ == "__main__":
    unittest.main()
