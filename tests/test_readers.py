"""Points [17], [18] and [19], and [2] of the same functions."""

import itertools
import unittest

from foreverrows.errors import NoReader
from foreverrows.readers import one_way, reads, sets_of, together, vet_reader
from foreverrows.windows import reader_of, stands
from tests.helper import chance, check_own, check_refused, steps_needed

EVEN = (2, [(0, "a", 0), (0, "b", 1), (1, "b", 0)])
LINE = (3, [(0, "a", 1), (1, "b", 2)])
GREAT = 10 ** 30


def readers():
    lot = chance(61)
    made = [EVEN, LINE, (1, []), (1, [(0, "a", 0)]), (6, []), (2, [(0, "a", 1), (1, "a", 0)])]
    for time in range(150):
        many = lot.randint(1, 6)
        marks = "abcd"[:lot.randint(1, 4)]
        every = [(i, mark, j) for i in range(many) for mark in marks for j in range(many)]
        arrows = lot.sample(every, min(len(every), lot.choice([many, many + 1, 2 * many, 30])))
        made.append((many, sorted(arrows)))
    return made


def words(marks, most):
    return ["".join(parts) for many in range(most + 1) for parts in itertools.product(marks, repeat=many)]


def read_from(reader, place, word):
    """By going along each walk, one after another."""
    if not word:
        return True
    ends = [end for start, mark, end in reader[1] if start == place and mark == word[0]]
    return any([read_from(reader, end, word[1:]) for end in ends])


def table_of(reader):
    many, arrows = reader
    return [[len([1 for start, mark, end in arrows if (start, end) == (i, j)]) for j in range(many)]
            for i in range(many)]


class VetTest(unittest.TestCase):

    def test_readers(self):
        for reader in readers():
            self.assertIs(True, check_own(self, vet_reader, reader))

    def test_number_of_places(self):
        for many in range(1, 7):
            self.assertIs(True, vet_reader((many, [])))
            self.assertIs(True, vet_reader((many, [(0, "a", many - 1)])))
        for many in (0, -1, 7, 8, GREAT, -GREAT):
            check_refused(self, NoReader, vet_reader, (many, []))
            check_refused(self, NoReader, vet_reader, (many, [(0, "a", 0)]))

    def test_a_truth_is_no_number(self):
        check_refused(self, NoReader, vet_reader, (True, []))
        check_refused(self, NoReader, vet_reader, (2, [(0, "a", True)]))

    def test_thirty_arrows_and_more(self):
        every = [(i, mark, j) for i in range(3) for mark in "abcd" for j in range(3)]
        self.assertIs(True, vet_reader((3, every[:30])))
        check_refused(self, NoReader, vet_reader, (3, every[:31]))
        check_refused(self, NoReader, vet_reader, (3, every))

    def test_a_place_that_is_none(self):
        for many in (1, 3, 6):
            for wrong in (-1, many, many + 1, GREAT, -GREAT):
                check_refused(self, NoReader, vet_reader, (many, [(wrong, "a", 0)]))
                check_refused(self, NoReader, vet_reader, (many, [(0, "a", wrong)]))
                check_refused(self, NoReader, vet_reader, (many, sorted([(0, "a", 0), (0, "b", wrong)])))

    def test_a_mark_that_is_none(self):
        for mark in ("a", "b", "c", "d"):
            self.assertIs(True, vet_reader((1, [(0, mark, 0)])))
        for mark in ("", "e", "A", "ab", "abcd", "bc", " ", "1"):
            check_refused(self, NoReader, vet_reader, (1, [(0, mark, 0)]))
            check_refused(self, NoReader, vet_reader, (2, sorted([(0, "a", 0), (1, mark, 0)])))

    def test_arrows_that_are_not_sorted(self):
        check_refused(self, NoReader, vet_reader, (2, [(1, "a", 0), (0, "a", 0)]))
        check_refused(self, NoReader, vet_reader, (2, [(0, "b", 0), (0, "a", 0)]))
        check_refused(self, NoReader, vet_reader, (2, [(0, "a", 1), (0, "a", 0)]))
        check_refused(self, NoReader, vet_reader, (2, [(0, "a", 0), (1, "a", 0), (0, "b", 0)]))
        check_refused(self, NoReader, vet_reader, (2, [(0, "b", 0), (1, "a", 0), (1, "a", 1), (1, "a", 0)]))
        self.assertIs(True, vet_reader((2, [(0, "a", 0), (0, "a", 1), (0, "b", 0), (1, "a", 0)])))

    def test_an_arrow_that_stands_twice(self):
        check_refused(self, NoReader, vet_reader, (1, [(0, "a", 0), (0, "a", 0)]))
        check_refused(self, NoReader, vet_reader, (2, [(0, "a", 0), (1, "b", 1), (1, "b", 1)]))


class ReadsTest(unittest.TestCase):

    def test_the_word_without_signs(self):
        for reader in readers():
            self.assertIs(True, reads(reader, ""))

    def test_read_from_one_place_alone(self):
        self.assertIs(True, reads(LINE, "ab"))
        self.assertIs(True, reads(LINE, "a"))
        self.assertIs(True, reads(LINE, "b"))
        self.assertIs(True, reads((3, [(2, "c", 0)]), "c"))

    def test_not_read(self):
        self.assertIs(False, reads(LINE, "ba"))
        self.assertIs(False, reads(LINE, "aa"))
        self.assertIs(False, reads(LINE, "abb"))
        self.assertIs(False, reads(LINE, "c"))
        self.assertIs(False, reads(EVEN, "abbba"))
        self.assertIs(True, reads(EVEN, "babbabbbb"))

    def test_by_all_walks(self):
        for reader in readers():
            for word in words("abcd", 3) + ["abababab", "aabbaabb"]:
                right = any([read_from(reader, place, word) for place in range(reader[0])])
                self.assertIs(right, reads(reader, word))
            check_own(self, reads, reader, "ab")

    def test_long_words(self):
        self.assertIs(True, reads(EVEN, "bb" * 60 + "a" * 30))
        self.assertIs(False, reads(EVEN, "a" + "bb" * 60 + "ba"))

    def test_readers_of_bars(self):
        for signs, bars in ((2, ["bb"]), (3, ["abcab", "cc"]), (4, ["abcd"]), (2, ["aaaaaa", "ba"])):
            windows, reader = reader_of(signs, bars)
            for word in words("abcd", 3 if signs > 2 else 5):
                self.assertIs(stands(signs, bars, word), reads(reader, word))

    def test_the_reader_without_places_reads_nothing(self):
        windows, reader = reader_of(2, ["a", "b"])
        self.assertIs(False, reads(reader, ""))
        self.assertIs(False, reads(reader, "a"))


class TogetherTest(unittest.TestCase):

    def test_ordinary_ones(self):
        self.assertIs(True, together(EVEN))
        self.assertIs(False, together(LINE))
        self.assertIs(False, together((1, [])))
        self.assertIs(True, together((1, [(0, "d", 0)])))
        self.assertIs(True, together((2, [(0, "a", 1), (1, "a", 0)])))
        self.assertIs(False, together((2, [(0, "a", 0), (0, "a", 1), (1, "a", 1)])))
        self.assertIs(False, together((2, [(0, "a", 0), (1, "a", 0), (1, "a", 1)])))

    def test_by_walks(self):
        found = set()
        for reader in readers():
            table = table_of(reader)
            places = range(reader[0])
            right = all([steps_needed(table, i, j) is not None for i in places for j in places])
            self.assertIs(right, check_own(self, together, reader))
            found.add(right)
        self.assertEqual({True, False}, found)

    def test_readers_of_bars(self):
        self.assertIs(True, together(reader_of(3, ["abcab"])[1]))
        self.assertIs(True, together(reader_of(4, ["abcd"])[1]))
        self.assertIs(False, together(reader_of(2, ["ba"])[1]))
        self.assertIs(False, together(reader_of(2, ["baaaaa", "abbbbb", "abab", "baba"])[1]))

    def test_where_there_is_no_place_nothing_is_wanting(self):
        self.assertIs(True, together((0, [])))


class OneWayTest(unittest.TestCase):

    def test_ordinary_ones(self):
        self.assertIs(True, one_way(EVEN))
        self.assertIs(True, one_way(LINE))
        self.assertIs(True, one_way((1, [])))
        self.assertIs(True, one_way((0, [])))
        self.assertIs(False, one_way((2, [(0, "a", 0), (0, "a", 1)])))
        self.assertIs(True, one_way((2, [(0, "a", 0), (0, "b", 0)])))
        self.assertIs(True, one_way((2, [(0, "a", 0), (1, "a", 0)])))
        self.assertIs(False, one_way((2, [(0, "a", 0), (1, "c", 0), (1, "c", 1)])))

    def test_by_counting(self):
        found = set()
        for reader in readers():
            many, arrows = reader
            counts = [len([1 for start, sign, end in arrows if (start, sign) == (place, mark)])
                      for place in range(many) for mark in "abcd"]
            right = max(counts) <= 1
            self.assertIs(right, check_own(self, one_way, reader))
            found.add(right)
        self.assertEqual({True, False}, found)

    def test_readers_of_bars(self):
        for signs, bars in ((2, ["bb"]), (3, ["abcab", "cc"]), (4, ["abcd"])):
            self.assertIs(True, one_way(reader_of(signs, bars)[1]))


class SetsTest(unittest.TestCase):

    def test_ordinary_ones(self):
        right = ([[0, 1], [0], [1]], (3, [(0, "a", 1), (0, "b", 0), (1, "a", 1), (1, "b", 2), (2, "b", 1)]))
        self.assertEqual(right, sets_of(EVEN))
        self.assertEqual(([[0, 1, 2], [1], [2]], (3, [(0, "a", 1), (0, "b", 2), (1, "b", 2)])), sets_of(LINE))

    def test_no_arrows(self):
        self.assertEqual(([[0]], (1, [])), sets_of((1, [])))
        self.assertEqual(([[0, 1, 2, 3, 4, 5]], (1, [])), sets_of((6, [])))

    def test_the_first_set_met_again(self):
        self.assertEqual(([[0, 1]], (1, [(0, "a", 0)])), sets_of((2, [(0, "a", 1), (1, "a", 0)])))

    def test_the_order_in_which_they_are_met(self):
        reader = (3, [(0, "b", 2), (0, "d", 1), (1, "a", 0), (1, "c", 0), (1, "c", 1), (2, "a", 1)])
        sets, told = sets_of(reader)
        self.assertEqual([[0, 1, 2], [0, 1], [2], [1], [0]], sets)
        right = [
            (0, "a", 1), (0, "b", 2), (0, "c", 1), (0, "d", 3), (1, "a", 4), (1, "b", 2), (1, "c", 1), (1, "d", 3),
            (2, "a", 3), (3, "a", 4), (3, "c", 1), (4, "b", 2), (4, "d", 3),
        ]
        self.assertEqual((5, right), told)

    def test_by_words(self):
        """Sets by the words that lead to them, the shortest and first ones first."""
        for reader in readers():
            told = check_own(self, sets_of, reader)
            self.assertIsInstance(told, tuple)
            sets, (many, arrows) = told
            self.assertEqual(len(sets), many)
            self.assertEqual(sorted(arrows), arrows)
            self.assertEqual(self.first_words(reader), sets)
            right = []
            for number, places in enumerate(sets):
                for mark in "abcd":
                    ends = self.ends(reader, places, mark)
                    if ends:
                        right.append((number, mark, sets.index(ends)))
            self.assertEqual(right, arrows)

    def ends(self, reader, places, mark):
        return sorted({end for start, sign, end in reader[1] if sign == mark and start in places})

    def first_words(self, reader):
        """The sets by the length of their first word, then by that word."""
        first = {"": list(range(reader[0]))}
        met = {tuple(first[""]): ""}
        while first:
            longer = {}
            for word in sorted(first):
                for mark in "abcd":
                    ends = self.ends(reader, first[word], mark)
                    if ends and tuple(ends) not in met:
                        met[tuple(ends)] = word + mark
                        longer[word + mark] = ends
            first = longer
        return [list(places) for places in sorted(met, key=lambda places: (len(met[places]), met[places]))]

    def test_many_sets_of_six_places(self):
        turn = [(place, "a", (place + 1) % 6) for place in range(6)]
        swap = [(place, "b", {0: 1, 1: 0}.get(place, place)) for place in range(6)]
        draw = [(place, "c", 0 if place == 1 else place) for place in range(6)]
        sets, (many, arrows) = sets_of((6, sorted(turn + swap + draw)))
        self.assertEqual(63, many)
        self.assertEqual(63, len({tuple(places) for places in sets}))
        self.assertEqual(63 * 3, len(arrows))


class OtherQuestionsTest(unittest.TestCase):

    def test_an_answer_is_the_same_behind_other_questions(self):
        asked = readers()
        first = [(sets_of(reader), together(reader), one_way(reader), reads(reader, "ab")) for reader in asked]
        for reader, right in list(zip(asked, first))[::-1]:
            self.assertEqual(right, (sets_of(reader), together(reader), one_way(reader), reads(reader, "ab")))


if __name__ == "__main__":
    unittest.main()
