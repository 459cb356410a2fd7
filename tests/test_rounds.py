"""Points [25] to [28], and [2] of the same functions."""

import unittest

from foreverrows.corners import determinant
from foreverrows.errors import TooMany
from foreverrows.grids import plain_grid
from foreverrows.rounds import first_rounds, round_polynomial, rounds, rounds_by, rounds_walked
from foreverrows.tables import arrows_of
from tests.helper import chance, check_own, check_refused, table_by_chance

GOLDEN = [[1, 1], [1, 0]]
NONE_ROUND = [[[0]], [[0, 3], [0, 0]], [[0, 1, 2], [0, 0, 5], [0, 0, 0]], [[0] * 6 for row in range(6)]]
GREAT = 10 ** 99 + 7


def tables(seed, many):
    lot = chance(seed)
    return [table_by_chance(lot) for time in range(many)]


def small_tables(seed, many):
    """Tables whose rows that come round can be gone through one by one."""
    lot = chance(seed)
    made = []
    while len(made) < many:
        size = lot.randint(1, 4)
        made.append([[lot.choice([0, 0, 1, 2]) for entry in range(size)] for row in range(size)])
    return made


def lists_round(table, n):
    """By going along all arrows, whether they lead back or not."""
    arrows = arrows_of(table)
    walks = [[arrow] for arrow in arrows]
    for step in range(n - 1):
        walks = [walk + [arrow] for walk in walks for arrow in arrows if arrow[0] == walk[-1][1]]
    return [walk for walk in walks if walk[-1][1] == walk[0][0]]


def count_round(table, n):
    """By how many walks lead from each place to each, one arrow more at a time."""
    total = 0
    for start in range(len(table)):
        counts = [int(place == start) for place in range(len(table))]
        for step in range(n):
            counts = [sum([counts[i] * table[i][j] for i in range(len(table))]) for j in range(len(table))]
        total += counts[start]
    return total


def first_step(walk):
    """In how few steps a list comes round."""
    return min([n for n in range(1, len(walk) + 1) if len(walk) % n == 0 and walk[:n] * (len(walk) // n) == walk])


class RoundsTest(unittest.TestCase):

    def test_ordinary_ones(self):
        self.assertEqual([1, 3, 4, 7, 11, 18], [rounds(GOLDEN, n) for n in range(1, 7)])
        self.assertEqual(103682, rounds(GOLDEN, 24))
        self.assertEqual([2 ** n for n in range(1, 25)], [rounds([[2]], n) for n in range(1, 25)])
        self.assertEqual([0, 2, 0, 2], [rounds([[0, 1], [1, 0]], n) for n in range(1, 5)])

    def test_none_come_round(self):
        for table in NONE_ROUND:
            for n in range(1, 25):
                self.assertEqual(0, rounds(table, n))

    def test_tables_that_do_not_hang_together(self):
        self.assertEqual(2 ** 24 + 3 ** 24, rounds([[2, 5], [0, 3]], 24))
        self.assertEqual(5, rounds([[2, 5], [0, 3]], 1))
        self.assertEqual(4, rounds([[0, 1, 0, 0], [1, 0, 1, 0], [0, 0, 0, 1], [0, 0, 1, 0]], 2))

    def test_by_walks(self):
        for table in tables(101, 120):
            for n in (1, 2, 3, 5, 7, 12, 23, 24):
                self.assertEqual(count_round(table, n), rounds(table, n))
            self.assertEqual(count_round(table, 6), check_own(self, rounds, table, 6))

    def test_by_lists(self):
        for table in small_tables(102, 40):
            for n in range(1, 5):
                self.assertEqual(len(lists_round(table, n)), rounds(table, n))

    def test_told_tables(self):
        table = [[GREAT, 1], [1, GREAT]]
        self.assertEqual((GREAT + 1) ** 24 + (GREAT - 1) ** 24, rounds(table, 24))


class PolynomialTest(unittest.TestCase):

    def check_polynomial(self, table):
        """By the determinants for more x than there are numbers to be told."""
        told = check_own(self, round_polynomial, table)
        self.assertEqual(len(table) + 1, len(told))
        for x in range(-3, len(table) + 2):
            plain = plain_grid(len(table))
            grid = [[plain[i][j] - x * entry for j, entry in enumerate(row)] for i, row in enumerate(table)]
            self.assertEqual(determinant(grid), sum([c * x ** power for power, c in enumerate(told)]))
        return told

    def test_ordinary_ones(self):
        self.assertEqual([1, -1, -1], self.check_polynomial(GOLDEN))
        self.assertEqual([1, -40], self.check_polynomial([[40]]))
        self.assertEqual([1, 0], self.check_polynomial([[0]]))
        self.assertEqual([1, -5, 6], self.check_polynomial([[2, 5], [0, 3]]))

    def test_none_come_round(self):
        for table in NONE_ROUND:
            self.assertEqual([1] + [0] * len(table), self.check_polynomial(table))

    def test_many_tables(self):
        sizes = set()
        for table in tables(103, 150):
            self.check_polynomial(table)
            sizes.add(len(table))
        self.assertEqual({1, 2, 3, 4, 5, 6}, sizes)

    def test_seven_to_nine_places(self):
        lot = chance(104)
        for size in (7, 8, 9):
            for most in (1, 3, GREAT):
                self.check_polynomial([[lot.randint(0, most) for entry in range(size)] for row in range(size)])

    def test_both_agree_with_the_powers(self):
        lot = chance(105)
        nine = [[lot.randint(0, 2) for entry in range(9)] for row in range(9)]
        for table in tables(106, 60) + NONE_ROUND + [nine]:
            polynomial = round_polynomial(table)
            for n in range(1, 25):
                self.assertEqual(rounds(table, n), rounds_by(polynomial, n))
            self.assertEqual(rounds(table, 9), check_own(self, rounds_by, polynomial, 9))


class RoundsByTest(unittest.TestCase):

    def test_ordinary_ones(self):
        self.assertEqual([1, 3, 4, 7, 11, 18], [rounds_by([1, -1, -1], n) for n in range(1, 7)])

    def test_beyond_the_length_of_the_list(self):
        self.assertEqual(103682, rounds_by([1, -1, -1], 24))
        self.assertEqual(2 ** 24, rounds_by([1, -2], 24))
        self.assertEqual(0, rounds_by([1, 0], 24))
        self.assertEqual(0, rounds_by([1], 24))
        self.assertEqual(0, rounds_by([1], 1))

    def test_noughts_at_the_end_change_nothing(self):
        for n in range(1, 25):
            self.assertEqual(rounds_by([1, -3, 1], n), rounds_by([1, -3, 1, 0, 0, 0, 0], n))

    def test_by_roots(self):
        """(1 - 2x)(1 - 3x)(1 + x): the sums of the powers of 2, 3 and -1."""
        for n in range(1, 25):
            self.assertEqual(2 ** n + 3 ** n + (-1) ** n, rounds_by([1, -4, 1, 6], n))


class WalkedTest(unittest.TestCase):

    def test_ordinary_ones(self):
        self.assertEqual([[(0, 0, 0)], [(0, 0, 1)]], rounds_walked([[2]], 1))
        right = [[(0, 0, 0), (0, 0, 0)], [(0, 1, 0), (1, 0, 0)], [(1, 0, 0), (0, 1, 0)]]
        self.assertEqual(right, check_own(self, rounds_walked, GOLDEN, 2))
        self.assertEqual([], rounds_walked([[0, 1], [1, 0]], 1))

    def test_none_come_round(self):
        for table in NONE_ROUND:
            for n in range(1, 9):
                self.assertEqual([], check_own(self, rounds_walked, table, n))

    def test_by_going_along_all_arrows(self):
        listed = {n: 0 for n in range(1, 9)}
        for table in small_tables(107, 80):
            for n in range(1, 9):
                if sum([sum(row) for row in table]) ** n > 40000:
                    continue
                right = sorted(lists_round(table, n))
                if len(right) > 300:
                    check_refused(self, TooMany, rounds_walked, table, n)
                else:
                    self.assertEqual(right, check_own(self, rounds_walked, table, n))
                    listed[n] += 1
        self.assertGreater(min(listed.values()), 3)

    def test_eight_steps(self):
        told = check_own(self, rounds_walked, GOLDEN, 8)
        self.assertEqual(47, len(told))
        self.assertEqual(sorted(lists_round(GOLDEN, 8)), told)
        self.assertEqual(256, len(rounds_walked([[2]], 8)))

    def test_just_three_hundred_and_more(self):
        # 6 times 6 lists at the place 0, and 12 times 11 from each place by way of the other one.
        just = [[6, 12], [11, 0]]
        self.assertEqual(300, rounds(just, 2))
        self.assertEqual(sorted(lists_round(just, 2)), check_own(self, rounds_walked, just, 2))
        more = [[17, 0, 0], [0, 3, 1], [0, 1, 1]]
        self.assertEqual(301, rounds(more, 2))
        check_refused(self, TooMany, rounds_walked, more, 2)
        self.assertEqual(300, len(rounds_walked([[300]], 1)))
        check_refused(self, TooMany, rounds_walked, [[301]], 1)

    def test_far_too_many(self):
        check_refused(self, TooMany, rounds_walked, [[40]], 8)
        check_refused(self, TooMany, rounds_walked, [[6, 6, 6], [6, 4, 6], [2, 2, 2]], 8)
        check_refused(self, TooMany, rounds_walked, [[GREAT, 1], [1, GREAT]], 8)

    def test_many_walks_that_lead_astray(self):
        # From 0 on more walks lead away than could be gone through, but no one leads back.
        table = [[GREAT if j > i else 0 for j in range(6)] for i in range(6)]
        table[5][5] = 2
        right = [[(5, 5, k)] for k in range(2)]
        self.assertEqual(right, rounds_walked(table, 1))
        self.assertEqual(256, len(rounds_walked(table, 8)))


class FirstRoundsTest(unittest.TestCase):

    def test_ordinary_ones(self):
        self.assertEqual([2, 2, 6, 12, 30, 54], [first_rounds([[2]], n) for n in range(1, 7)])
        self.assertEqual(1, first_rounds(GOLDEN, 1))
        self.assertEqual(198, first_rounds(GOLDEN, 11))
        self.assertEqual(103682 - 322 - 47 + 7, first_rounds(GOLDEN, 24))

    def test_a_prime(self):
        for table in tables(108, 40):
            for n in (2, 3, 5, 23):
                self.assertEqual(rounds(table, n) - rounds(table, 1), first_rounds(table, n))
            self.assertEqual(rounds(table, 1), first_rounds(table, 1))

    def test_by_lists(self):
        for table in small_tables(109, 60):
            for n in range(1, 7):
                if sum([sum(row) for row in table]) ** n <= 40000:
                    right = len([walk for walk in lists_round(table, n) if first_step(walk) == n])
                    self.assertEqual(right, check_own(self, first_rounds, table, n))

    def test_together_over_the_divisors(self):
        for table in tables(110, 40) + NONE_ROUND:
            for n in range(1, 25):
                parts = [first_rounds(table, part) for part in range(1, n + 1) if n % part == 0]
                self.assertEqual(rounds(table, n), sum(parts))
                # Each row has n lists, begun elsewhere.
                self.assertEqual(0, parts[-1] % n)

    def test_a_ring_comes_round_in_one_number_of_steps_alone(self):
        ring = [[int(j == (i + 1) % 6) for j in range(6)] for i in range(6)]
        self.assertEqual([0, 0, 0, 0, 0, 6] + [0] * 18, [first_rounds(ring, n) for n in range(1, 25)])


class OtherQuestionsTest(unittest.TestCase):

    def test_an_answer_is_the_same_behind_other_questions(self):
        def answers(table):
            return (rounds(table, 5), round_polynomial(table), rounds_by(round_polynomial(table), 7),
                    rounds_walked(table, 2), first_rounds(table, 6))
        asked = [table for table in tables(111, 60) if rounds(table, 2) <= 300]
        first = [answers(table) for table in asked]
        for table, right in list(zip(asked, first))[::-1]:
            self.assertEqual(right, answers(table))


if __name__ == "__main__":
    unittest.main()
