"""Points [23] and [24], and [2] of the same functions."""

import itertools
import unittest

from foreverrows.errors import NoWhole
from foreverrows.leastnets import least_net
from foreverrows.likeness import same_rows, window_length
from foreverrows.readers import reads, sets_of, together
from foreverrows.windows import reader_of
from tests.helper import check_own, check_refused, ends_of_word, parting_of_sets, whole_readers

EVEN = (2, [(0, "a", 0), (0, "b", 1), (1, "b", 0)])
GOLDEN = (2, [(0, "a", 0), (0, "b", 1), (1, "a", 0)])
FREE = (1, [(0, "a", 0), (0, "b", 0)])
NOT_WHOLE = [(1, []), (3, [(0, "a", 1), (1, "b", 2)]), (2, [(0, "a", 0), (1, "a", 1)]), (2, [(0, "a", 0), (0, "b", 1),
                                                                                             (1, "a", 1)])]
# The first word that just one of these two reads has 37 signs.
LONG_ONE = (3, [
    (0, "b", 2), (0, "c", 1), (0, "c", 2), (1, "a", 0), (1, "a", 1), (1, "b", 1), (1, "c", 0), (1, "c", 1),
    (2, "a", 1), (2, "a", 2), (2, "b", 1), (2, "c", 0), (2, "c", 1),
])
LONG_OTHER = (6, [
    (0, "a", 2), (0, "a", 3), (0, "a", 5), (0, "c", 3), (1, "a", 5), (1, "b", 2), (1, "b", 5), (1, "c", 3),
    (1, "c", 4), (2, "b", 2), (2, "b", 4), (2, "c", 2), (2, "c", 3), (3, "a", 0), (3, "a", 1), (3, "b", 3),
    (3, "c", 0), (3, "c", 5), (4, "a", 0), (4, "a", 3), (4, "b", 0), (4, "b", 2), (4, "c", 0), (4, "c", 4),
    (5, "a", 4), (5, "b", 1), (5, "c", 0),
])
# Windows of 36 signs are enough for this one, and none of fewer.
LONG_WINDOW = (6, [
    (0, "b", 5), (0, "c", 1), (1, "b", 0), (2, "b", 0), (2, "b", 3), (3, "a", 2), (3, "b", 1), (3, "c", 4),
    (4, "a", 1), (4, "b", 4), (5, "b", 2),
])


class SameRowsTest(unittest.TestCase):

    def check_same(self, one, other):
        told = check_own(self, same_rows, one, other)
        self.assertIsInstance(told, tuple)
        found = parting_of_sets(one, range(one[0]), other, range(other[0]))
        self.assertEqual(("same",) if found is None else ("word",) + found, told)
        self.assertEqual(told == ("same",), least_net(one) == least_net(other))
        return told

    def test_ordinary_ones(self):
        self.assertEqual(("same",), self.check_same(EVEN, EVEN))
        self.assertEqual(("word", "bb", 0), self.check_same(EVEN, GOLDEN))
        self.assertEqual(("word", "bb", 1), self.check_same(GOLDEN, EVEN))
        self.assertEqual(("word", "bb", 0), self.check_same(FREE, GOLDEN))
        self.assertEqual(("word", "aba", 1), self.check_same(EVEN, FREE))

    def test_of_several_the_first(self):
        one = (1, [(0, "b", 0), (0, "d", 0)])
        other = (1, [(0, "c", 0), (0, "d", 0)])
        self.assertEqual(("word", "b", 0), self.check_same(one, other))
        self.assertEqual(("word", "b", 1), self.check_same(other, one))
        self.assertEqual(("word", "a", 1), self.check_same(one, FREE))

    def test_the_same_with_other_places(self):
        other = (3, [(0, "b", 2), (1, "b", 2), (2, "a", 2), (2, "b", 0), (2, "b", 1)])
        self.assertEqual(("same",), self.check_same(EVEN, other))
        self.assertEqual(("same",), self.check_same(other, EVEN))
        self.assertEqual(("same",), self.check_same(FREE, (2, [(0, "a", 0), (0, "a", 1), (0, "b", 0), (1, "a", 0)])))
        ring = (6, [(place, "c", (place + 1) % 6) for place in range(6)])
        self.assertEqual(("same",), self.check_same(ring, (1, [(0, "c", 0)])))

    def test_a_word_of_many_signs(self):
        self.assertEqual(37, len(self.check_same(LONG_ONE, LONG_OTHER)[1]))

    def test_many_pairs(self):
        found = {}
        readers = whole_readers(91, 120)
        for one, other in list(zip(readers, readers[1:])) + [(reader, reader) for reader in readers[:10]]:
            told = self.check_same(one, other)
            found[told[0] if len(told) == 1 else told[2]] = True
        self.assertEqual({"same": True, 0: True, 1: True}, found)

    def test_by_all_short_words(self):
        readers = [EVEN, GOLDEN, FREE] + whole_readers(92, 30)
        for one, other in itertools.combinations(readers[:20], 2):
            told = same_rows(one, other)
            for many in range(1, 4 if told == ("same",) else min(4, len(told[1]))):
                for parts in itertools.product("abcd", repeat=many):
                    self.assertEqual(reads(one, "".join(parts)), reads(other, "".join(parts)))
            if told != ("same",):
                self.assertIs(told[2] == 0, reads(one, told[1]))
                self.assertIs(told[2] == 1, reads(other, told[1]))

    def test_not_whole(self):
        for reader in NOT_WHOLE:
            check_refused(self, NoWhole, same_rows, reader, EVEN)
            check_refused(self, NoWhole, same_rows, EVEN, reader)
            check_refused(self, NoWhole, same_rows, reader, reader)


class WindowLengthTest(unittest.TestCase):

    def check_window(self, reader):
        """By all pairs of unlike places to which words of a length lead; told is the tuple."""
        told = check_own(self, window_length, reader)
        self.assertIsInstance(told, tuple)
        net = least_net(reader)
        behind = [{mark: end for start, mark, end in net[1] if start == place} for place in range(net[0])]
        ahead = None
        pairs = {(p, q) for p in range(net[0]) for q in range(net[0]) if p != q}
        many = 0
        while pairs and pairs != ahead:
            ahead = pairs
            pairs = {(behind[p][mark], behind[q][mark]) for p, q in pairs for mark in behind[p]
                     if behind[q].get(mark, behind[p][mark]) != behind[p][mark]}
            many += 1
        if pairs:
            self.check_loops(net, told)
        else:
            self.assertEqual(("window", many), told)
        return told

    def check_loops(self, net, told):
        word, p, q, loop = told
        self.assertEqual("loops", word)
        self.assertNotEqual(p, q)
        self.assertNotEqual("", loop)
        self.assertEqual({p}, ends_of_word(net, [p], loop))
        self.assertEqual({q}, ends_of_word(net, [q], loop))

    def test_one_place(self):
        self.assertEqual(("window", 0), self.check_window(FREE))
        self.assertEqual(("window", 0), self.check_window((6, [(place, "a", (place + 1) % 6) for place in range(6)])))

    def test_ordinary_ones(self):
        self.assertEqual(("window", 1), self.check_window(GOLDEN))
        # Behind aa a b must come, behind bb an a: windows of two signs are needed.
        self.assertEqual(("window", 2), self.check_window(reader_of(2, ["aaa", "bbb"])[1]))
        self.assertEqual("loops", self.check_window(EVEN)[0])

    def test_by_all_words(self):
        """Windows of m signs are enough, of one fewer they are not."""
        for reader in [GOLDEN, reader_of(2, ["aaa", "bbb"])[1]] + whole_readers(93, 60):
            told = window_length(reader)
            if told[0] == "window" and told[1] <= 5:
                net = least_net(reader)
                places = frozenset(range(net[0]))
                for many in (told[1] - 1, told[1]):
                    most = max([len(ends_of_word(net, places, parts))
                                for parts in itertools.product("abcd", repeat=max(many, 0))])
                    self.assertEqual(many == told[1] or told[1] == 0, most <= 1)

    def test_many_readers(self):
        found = set()
        for reader in whole_readers(94, 300):
            told = self.check_window(reader)
            found.add(told if told[0] == "window" else "loops")
        self.assertLessEqual({("window", 0), ("window", 1), ("window", 2), ("window", 3), "loops"}, found)

    def test_a_long_window(self):
        self.assertEqual(("window", 36), self.check_window(LONG_WINDOW))

    def test_loops_that_exchange_the_two_places(self):
        # a leads each of the two to the other one: gone twice it leads both back.
        reader = (2, [(0, "a", 1), (0, "b", 0), (1, "a", 0)])
        told = self.check_window(reader)
        self.assertEqual("loops", told[0])
        self.assertEqual("aa", told[3])

    def test_pairs_that_only_lead_to_a_loop_or_come_from_one(self):
        reader = (3, [(0, "a", 1), (0, "b", 0), (1, "a", 0), (1, "c", 2), (2, "c", 0), (2, "d", 1)])
        self.assertEqual("loops", self.check_window(reader)[0])

    def test_windows_of_bars_are_enough(self):
        for signs, bars in ((2, []), (2, ["bb"]), (2, ["aba", "bb"]), (3, ["abcab", "cc"]), (4, ["abcd"]), (4, ["d"]),
                            (2, ["aaaaaa"]), (2, ["abaaba", "bbb"]), (3, ["ab", "bc"]), (3, ["abcab", "babac"])):
            windows, reader = reader_of(signs, bars)
            told = self.check_window(reader)
            self.assertEqual("window", told[0])
            self.assertLessEqual(told[1], len(windows[0]))
        self.assertEqual(("window", 5), window_length(reader_of(2, ["aaaaaa"])[1]))
        self.assertEqual(("window", 3), window_length(reader_of(4, ["abcd"])[1]))

    def test_readers_of_sets(self):
        for reader in whole_readers(95, 60):
            told = sets_of(reader)[1]
            if together(told):
                self.assertEqual(window_length(reader), window_length(told))

    def test_the_world_without_a_row(self):
        self.assertEqual(("window", 0), window_length((0, [])))

    def test_not_whole(self):
        for reader in NOT_WHOLE:
            check_refused(self, NoWhole, window_length, reader)
        check_refused(self, NoWhole, window_length, reader_of(2, ["ba"])[1])


class OtherQuestionsTest(unittest.TestCase):

    def test_an_answer_is_the_same_behind_other_questions(self):
        asked = whole_readers(96, 60)
        first = [(window_length(reader), same_rows(reader, EVEN)) for reader in asked]
        for reader, right in list(zip(asked, first))[::-1]:
            self.assertEqual(right, (window_length(reader), same_rows(reader, EVEN)))


if __name__ == "__main__":
    unittest.main()
