"""Points [39] and [40], and [2] of the same functions."""

import math
import unittest

from foreverrows.additions import addition_done
from foreverrows.draws import draw_done
from foreverrows.groups import group_of, same_class, sign_of
from foreverrows.splits import split_back, split_done
from tests.helper import (
    additions_by_chance, by_minors, by_orders, chance, check_own, draws_by_chance, flowing_tables, hangs_by_steps,
    splittings_by_chance, table_by_chance,
)

GREAT = 10 ** 99 + 7
# Its less grid has the corners 1, 2, 6.
THREE = [[2, 1, 1], [1, 4, 1], [1, 1, 8]]


def less(table):
    return [[int(i == j) - entry for j, entry in enumerate(row)] for i, row in enumerate(table)]


def right_group(table):
    corners = by_minors(less(table))
    return ([corner for corner in corners if corner > 1], corners.count(0))


def right_sign(table):
    whole = by_orders(less(table))
    return (whole > 0) - (whole < 0)


def table_of(turned):
    """The table of which the less grid, turned in its signs, is this one."""
    return [[int(i == j) + entry for j, entry in enumerate(row)] for i, row in enumerate(turned)]


def moved_tables(seed, many):
    """Tables that hang together, each with the table to which a move of any of [33], [34], [37], [41] leads it."""
    lot = chance(seed)
    made = []
    for table in flowing_tables(seed, many):
        for move in splittings_by_chance(lot, table):
            after = split_done(table, move)
            made.append((move[0], table, after))
            made.append(("join " + move[0], after, split_done(after, split_back(table, move))))
        if len(table) > 1:
            made.append(("swap", table, split_done(table, ("swap", *lot.sample(range(len(table)), 2)))))
        for move in draws_by_chance(lot, table):
            made.append((move[0], table, draw_done(table, move)))
        for move in additions_by_chance(lot, table):
            made.append((move[0], table, addition_done(table, move)))
    return made


class GroupTest(unittest.TestCase):

    def test_no_orders_and_one(self):
        self.assertEqual(([], 0), group_of([[2]]))
        self.assertEqual(([], 0), group_of([[0]]))
        self.assertEqual(([], 1), group_of([[1]]))
        self.assertEqual(([2], 0), group_of([[3]]))
        self.assertEqual(([39], 0), group_of([[40]]))
        self.assertEqual(([], 0), group_of([[1, 1], [1, 0]]))
        self.assertEqual(([3], 0), check_own(self, group_of, [[1, 3], [1, 1]]))

    def test_several_and_free_ones(self):
        self.assertEqual(([2, 6], 0), check_own(self, group_of, THREE))
        self.assertEqual(([2, 2], 0), group_of([[3, 0], [0, 3]]))
        # The orders in order, the greater corner first in the table.
        self.assertEqual(([2, 6], 0), group_of([[7, 0], [0, 3]]))
        self.assertEqual(([6], 0), group_of([[3, 0], [0, 4]]))
        self.assertEqual(([], 1), group_of([[2, 1], [1, 2]]))
        self.assertEqual(([2], 2), check_own(self, group_of, table_of([[2, 2, 2], [2, 2, 2], [2, 2, 2]])))
        self.assertEqual(([], 3), group_of([[1, 0, 0], [0, 1, 0], [0, 0, 1]]))

    def test_by_minors(self):
        lot = chance(201)
        places, orders, free = set(), set(), set()
        for time in range(150):
            table = table_by_chance(lot)
            told = check_own(self, group_of, table)
            self.assertEqual(right_group(table), told)
            places.add(len(table))
            orders.add(len(told[0]))
            free.add(told[1])
        self.assertEqual({1, 2, 3, 4, 5, 6}, places)
        self.assertLessEqual({0, 1, 2}, orders)
        self.assertLessEqual({0, 1, 2}, free)

    def test_orders_of_many_figures(self):
        table = table_of([[1, 1, 1], [1, 1 + GREAT, 1], [1, 1, 1 + 3 * GREAT]])
        self.assertEqual(([GREAT, 3 * GREAT], 0), check_own(self, group_of, table))
        table = table_of([[GREAT, GREAT], [GREAT, GREAT]])
        self.assertEqual(([GREAT], 1), group_of(table))
        self.assertEqual(([GREAT], 0), group_of([[GREAT + 1]]))
        lot = chance(202)
        for n in (2, 3, 4):
            table = [[lot.randrange(GREAT) for entry in range(n)] for row in range(n)]
            self.assertEqual(right_group(table), group_of(table))

    def test_more_places_and_arrows(self):
        lot = chance(203)
        for n in (7, 8, 9, 12):
            corners = [1] * (n - 3) + [5, 10, 0]
            turned = [[1 + (corners[i] if i == j > 0 else 0) for j in range(n)] for i in range(n)]
            order = lot.sample(range(n), n)
            self.assertEqual(([5, 10], 1), group_of(table_of([turned[i] for i in order])))


class SignTest(unittest.TestCase):

    def test_ordinary_ones(self):
        self.assertEqual(-1, sign_of([[2]]))
        self.assertEqual(0, sign_of([[1]]))
        self.assertEqual(1, sign_of([[0]]))
        self.assertEqual(-1, check_own(self, sign_of, [[1, 1], [1, 0]]))
        self.assertEqual(1, sign_of([[3, 1], [1, 3]]))
        self.assertEqual(-1, sign_of([[2, 2], [2, 2]]))
        self.assertEqual(0, sign_of([[2, 1], [1, 2]]))
        self.assertEqual(-1, sign_of(THREE))

    def test_by_orders(self):
        lot = chance(204)
        told = {}
        for time in range(300):
            table = table_by_chance(lot)
            sign = check_own(self, sign_of, table)
            self.assertEqual(right_sign(table), sign)
            told[sign] = told.get(sign, 0) + 1
        self.assertEqual({1, -1, 0}, set(told))
        self.assertGreater(min(told.values()), 30)

    def test_great_numbers_and_many_places(self):
        self.assertEqual(1, sign_of(table_of([[GREAT, GREAT - 1], [GREAT - 1, GREAT - 1]])))
        self.assertEqual(-1, sign_of(table_of([[GREAT, GREAT], [GREAT, GREAT - 1]])))
        self.assertEqual(0, sign_of(table_of([[GREAT, 2 * GREAT], [1, 2]])))
        for n in range(7, 11):
            table = [[2 if i == j else 1 for j in range(n)] for i in range(n)]
            self.assertEqual(0, sign_of(table))
            table = [[3 if i == j else 1 for j in range(n)] for i in range(n)]
            self.assertEqual((-1) ** n, sign_of(table))


class NoMoveChangesThemTest(unittest.TestCase):

    def test_behind_each_move(self):
        words = {}
        for word, table, after in moved_tables(205, 60):
            self.assertTrue(hangs_by_steps(after))
            self.assertEqual(group_of(table), group_of(after), (word, table, after))
            self.assertEqual(sign_of(table), sign_of(after), (word, table, after))
            words[word] = words.get(word, 0) + 1
        right = {"swap", "out", "in", "join out", "join in", "draw", "lay", "row", "column"}
        self.assertEqual(right, set(words))
        self.assertGreater(min(words.values()), 20)


class SameClassTest(unittest.TestCase):

    def check_class(self, table, one, other):
        """What is told holds by itself; told is its first word."""
        told = check_own(self, same_class, table, one, other)
        gap = [x - y for x, y in zip(one, other)]
        grid = less(table)
        self.assertEqual(len(table), len(told[1]))
        if told[0] == "same":
            self.assertEqual(2, len(told))
            made = [sum([times * row[at] for times, row in zip(told[1], grid)]) for at in range(len(table))]
            self.assertEqual(gap, made)
            return "same"
        self.assertEqual("apart", told[0])
        self.assertEqual(2, len(told))
        for top, bottom in told[1]:
            self.assertGreaterEqual(bottom, 1)
            self.assertEqual(1, math.gcd(top, bottom))
        bottom = math.lcm(*[part[1] for part in told[1]])
        weights = [part[0] * (bottom // part[1]) for part in told[1]]
        for row in grid:
            self.assertEqual(0, sum([x * y for x, y in zip(row, weights)]) % bottom)
        self.assertNotEqual(0, sum([x * y for x, y in zip(gap, weights)]) % bottom)
        return "apart"

    def test_ordinary_ones(self):
        self.assertEqual(("same", [-2]), same_class([[3]], [7], [3]))
        self.assertEqual("apart", self.check_class([[3]], [7], [4]))
        self.assertEqual("same", self.check_class([[1, 1], [1, 0]], [5, -3], [0, 8]))
        self.assertEqual("same", self.check_class(THREE, [1, 1, 1], [0, 0, 0]))
        self.assertEqual("apart", self.check_class(THREE, [0, 1, 0], [0, 0, 0]))
        self.assertEqual("apart", self.check_class(THREE, [0, 0, 0], [0, 3, 0]))
        self.assertEqual("same", self.check_class(THREE, [4, 6, 4], [0, 0, 0]))
        # Of the last place, five, three and two are none, six are one class.
        words = [self.check_class(THREE, [2, 2, 2 + many], [2, 2, 2]) for many in range(7)]
        self.assertEqual(["same", "apart", "apart", "apart", "apart", "apart", "same"], words)

    def test_two_lists_that_are_the_same(self):
        lot = chance(206)
        for time in range(40):
            table = table_by_chance(lot)
            one = [lot.randint(-GREAT, GREAT) for place in table]
            self.assertEqual("same", self.check_class(table, one, list(one)))

    def test_the_rows_not_the_columns(self):
        """A table whose rows and columns make unlike classes."""
        table = table_of([[2, 1], [0, 3]])
        self.assertEqual("same", self.check_class(table, [2, 1], [0, 0]))
        self.assertEqual("apart", self.check_class(table, [2, 0], [0, 0]))
        self.assertEqual("apart", self.check_class(table, [1, 3], [0, 0]))

    def test_a_determinant_of_nought(self):
        table = [[2, 1], [1, 2]]
        self.assertEqual("same", self.check_class(table, [4, 4], [0, 0]))
        self.assertEqual("apart", self.check_class(table, [4, 5], [0, 0]))
        self.assertEqual("apart", self.check_class(table, [1, 0], [0, 0]))
        self.assertEqual("same", self.check_class([[1]], [5], [5]))
        self.assertEqual("apart", self.check_class([[1]], [5], [4]))
        self.assertEqual("apart", self.check_class([[1]], [-GREAT], [GREAT]))
        same = [[1, 0, 0], [0, 1, 0], [0, 0, 1]]
        self.assertEqual("apart", self.check_class(same, [0, 0, 1], [0, 0, 0]))

    def test_orders_of_many_figures(self):
        table = table_of([[1, 1, 1], [1, 1 + GREAT, 1], [1, 1, 1 + 3 * GREAT]])
        self.assertEqual("same", self.check_class(table, [9, 9 + GREAT, 9 - 3 * GREAT], [9, 9, 9]))
        self.assertEqual("apart", self.check_class(table, [0, 0, GREAT], [0, 0, 0]))
        self.assertEqual("apart", self.check_class(table, [0, GREAT - 1, 0], [0, 0, 0]))
        self.assertEqual("apart", self.check_class(table, [0, 1, 0], [0, -1, 0]))
        table = table_of([[GREAT, GREAT], [GREAT, GREAT]])
        self.assertEqual("same", self.check_class(table, [GREAT * 5, GREAT * 5], [0, 0]))
        self.assertEqual("apart", self.check_class(table, [GREAT * 5, GREAT * 6], [0, 0]))
        self.assertEqual("apart", self.check_class(table, [5, 5], [0, 0]))

    def test_many_ones(self):
        lot = chance(207)
        words = {}
        for time in range(200):
            table = table_by_chance(lot)
            most = lot.choice([1, 5, GREAT])
            one = [lot.randint(-most, most) for place in table]
            other = [lot.randint(-most, most) for place in table]
            word = self.check_class(table, one, other)
            words[word] = words.get(word, 0) + 1
        self.assertGreater(min(words["same"], words["apart"]), 30)

    def test_sums_of_rows(self):
        lot = chance(208)
        for time in range(100):
            table = table_by_chance(lot)
            most = lot.choice([1, 5, GREAT])
            other = [lot.randint(-most, most) for place in table]
            times = [lot.randint(-most, most) for place in table]
            grid = less(table)
            one = [y + sum([x * row[at] for x, row in zip(times, grid)]) for at, y in enumerate(other)]
            self.assertEqual("same", self.check_class(table, one, other))

    def test_many_places(self):
        lot = chance(209)
        for n in (7, 9):
            table = [[lot.choice([0, 0, 1, 2, GREAT]) for entry in range(n)] for row in range(n)]
            self.assertEqual("same", self.check_class(table, [1 - x for x in table[0][:1]] + [-x for x in table[0][1:]],
                                                      [0] * n))
            self.check_class(table, [lot.randint(-9, 9) for place in table], [0] * n)


class OtherQuestionsTest(unittest.TestCase):

    def test_an_answer_is_the_same_behind_other_questions(self):
        lot = chance(210)
        asked = [table_by_chance(lot) for time in range(40)]

        def answers(table):
            one = list(range(len(table)))
            return (group_of(table), sign_of(table), same_class(table, one, one[::-1]))

        first = [answers(table) for table in asked]
        for table, right in list(zip(asked, first))[::-1]:
            self.assertEqual(right, answers(table))


if __name__ == "__main__":
    unittest.main()
