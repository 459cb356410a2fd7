"""Points [20], [21] and [22], and [2] of the same functions."""

import itertools
import unittest

from foreverrows.errors import NotOneWay, NoWhole, NoWord, TooMany
from foreverrows.leastnets import least_net, parting_word, telling_word
from foreverrows.readers import one_way, sets_of, together
from foreverrows.windows import reader_of
from tests.helper import (
    chance, check_own, check_refused, ends_of_word, marked_ends, parting_of_sets, reader_by_chance, whole_readers,
)

EVEN = (2, [(0, "a", 0), (0, "b", 1), (1, "b", 0)])
LINE = (3, [(0, "a", 1), (1, "b", 2)])
NOT_WHOLE = [
    LINE, (1, []), (2, [(0, "a", 0), (1, "a", 1)]), (2, [(0, "a", 0), (0, "b", 1), (1, "a", 1)]), (6, []),
    (3, [(0, "a", 1), (0, "a", 2), (1, "a", 0)]),
]
TURNED = [
    (0, "a", 4), (0, "b", 4), (1, "a", 3), (1, "b", 5), (2, "a", 0), (3, "a", 1), (3, "b", 0), (4, "a", 0),
    (4, "b", 3), (5, "a", 3), (5, "b", 2),
]
SEVERAL_WAYS = [
    (0, "a", 5), (0, "b", 4), (0, "b", 5), (1, "a", 4), (1, "b", 5), (2, "b", 4), (3, "a", 0), (3, "a", 1),
    (3, "b", 3), (4, "a", 3), (4, "b", 1), (5, "a", 3), (5, "b", 2),
]
# Its least net has 58 places, of which two are parted by 31 signs and no fewer.
LONG_PARTED = [
    (0, "a", 0), (0, "a", 2), (0, "a", 4), (0, "b", 0), (0, "b", 2), (0, "b", 3), (0, "b", 4), (0, "b", 5),
    (0, "c", 1), (1, "a", 4), (1, "a", 5), (1, "b", 2), (1, "b", 5), (1, "c", 4), (2, "b", 0), (2, "c", 2),
    (3, "a", 0), (3, "a", 3), (3, "b", 2), (3, "c", 0), (4, "a", 0), (4, "a", 3), (4, "a", 5), (4, "b", 1),
    (4, "b", 3), (4, "c", 3), (5, "a", 5), (5, "b", 1), (5, "c", 5),
]
WORLDS = [(2, []), (2, ["bb"]), (2, ["aba", "bb"]), (3, ["abcab", "cc"]), (4, ["abcd"]), (3, ["aa", "bb", "cc"])]


def placed(reader, order):
    """The reader with its places numbered otherwise."""
    return (reader[0], sorted([(order[start], mark, order[end]) for start, mark, end in reader[1]]))


def doubled(reader):
    """Each place twice, each arrow leading from both to the other one of the two behind."""
    many, arrows = reader
    made = []
    for start, mark, end in arrows:
        made += [(start, mark, end + many), (start + many, mark, end)]
    return (2 * many, sorted(made))


def numbered_least(reader):
    """The least list of arrows of all those that are numbered as they are met."""
    lists = []
    for first in range(reader[0]):
        order = [first]
        for place in order:
            for mark in "abcd":
                order += [end for end in marked_ends(reader, [place], mark) if end not in order]
        lists.append(placed(reader, {place: number for number, place in enumerate(order)})[1])
    return (reader[0], min(lists))


def parted_pairs(net):
    """All pairs of places from which not the same is read: those with unlike marks, and those ahead of such a one."""
    behind = [{mark: end for start, mark, end in net[1] if start == place} for place in range(net[0])]
    pairs = [(p, q) for p in range(net[0]) for q in range(net[0])]
    parted = {(p, q) for p, q in pairs if set(behind[p]) != set(behind[q])}
    known = -1
    while known < len(parted):
        known = len(parted)
        ahead = [(p, q) for p, q in pairs for mark in behind[p] if (behind[p][mark], behind[q].get(mark)) in parted]
        parted.update(ahead)
    return parted


def all_readers_one_way(many, marks):
    """Every reader of so many places that reads one way."""
    begun = [(place, mark) for place in range(many) for mark in marks]
    for ends in itertools.product([None] + list(range(many)), repeat=len(begun)):
        yield (many, sorted([(place, mark, end) for (place, mark), end in zip(begun, ends) if end is not None]))


class LeastNetTest(unittest.TestCase):

    def check_least(self, reader):
        """Where it hangs together, reads one way and no two places read the same, no reader has fewer places."""
        net = check_own(self, least_net, reader)
        self.assertIsInstance(net, tuple)
        many, arrows = net
        self.assertTrue(together(net))
        self.assertTrue(one_way(net))
        self.assertEqual(sorted(arrows), arrows)
        self.assertIsNone(parting_of_sets(reader, range(reader[0]), net, range(many)))
        self.assertEqual(many * (many - 1), len(parted_pairs(net)))
        self.assertEqual(numbered_least(net), net)
        return net

    def test_one_place(self):
        for marks in ("a", "d", "bc", "abcd"):
            reader = (1, [(0, mark, 0) for mark in marks])
            self.assertEqual(reader, self.check_least(reader))

    def test_many_readers(self):
        several = 0
        sizes = set()
        for reader in whole_readers(71, 400):
            several += not one_way(reader)
            sizes.add((reader[0], self.check_least(reader)[0]))
        self.assertGreater(several, 40)
        self.assertEqual(set(range(1, 7)), {many for many, least in sizes})
        self.assertTrue(any([least > many for many, least in sizes]))
        self.assertTrue(any([least == many == 6 for many, least in sizes]))
        self.assertTrue(any([1 < least < many for many, least in sizes]))

    def test_no_reader_has_fewer_places(self):
        for reader in [EVEN] + [reader for reader in whole_readers(72, 120) if {m for s, m, e in reader[1]} == {*"ab"}]:
            many = least_net(reader)[0]
            for fewer in range(1, min(many, 4)):
                for other in all_readers_one_way(fewer, "ab"):
                    self.assertIsNotNone(parting_of_sets(reader, range(reader[0]), other, range(fewer)))

    def test_its_own_least_net_with_other_numbers(self):
        self.assertEqual(EVEN, self.check_least(EVEN))
        self.assertEqual(EVEN, self.check_least(placed(EVEN, [1, 0])))
        net = least_net((6, TURNED))
        self.assertEqual(6, net[0])
        lot = chance(73)
        for time in range(20):
            order = list(range(6))
            lot.shuffle(order)
            self.assertEqual(net, least_net(placed(net, order)))

    def test_the_least_list_of_all_that_can_be_begun(self):
        # Begun at 0 the first arrow leads on, begun at 1 it leads back to the beginning.
        reader = (2, [(0, "a", 1), (1, "a", 1), (1, "b", 0)])
        self.assertEqual((2, [(0, "a", 0), (0, "b", 1), (1, "a", 0)]), least_net(reader))
        # An earlier mark comes first, wherever it leads.
        reader = (2, [(0, "b", 0), (0, "c", 1), (1, "a", 0)])
        self.assertEqual((2, [(0, "a", 1), (1, "b", 1), (1, "c", 0)]), least_net(reader))
        # Of a ring of marks the least one to begin with.
        reader = (5, [(0, "b", 1), (1, "a", 2), (2, "b", 3), (3, "a", 4), (4, "a", 0)])
        right = [(0, "a", 1), (1, "a", 2), (2, "b", 3), (3, "a", 4), (4, "b", 0)]
        self.assertEqual((5, right), least_net(reader))

    def test_met_by_the_marks_in_order(self):
        reader = (3, [(0, "a", 0), (0, "b", 2), (0, "c", 1), (1, "a", 0), (2, "d", 1)])
        right = [(0, "a", 0), (0, "b", 1), (0, "c", 2), (1, "d", 2), (2, "a", 0)]
        self.assertEqual((3, right), self.check_least(reader))

    def test_places_that_read_the_same_are_one(self):
        self.assertEqual((1, [(0, "a", 0)]), least_net((6, [(place, "a", (place + 1) % 6) for place in range(6)])))
        self.assertEqual(EVEN, least_net(doubled(EVEN)))
        self.assertEqual((1, [(0, "a", 0), (0, "b", 0)]), least_net((2, [(0, "a", 0), (0, "b", 1), (1, "a", 0),
                                                                          (1, "b", 1)])))

    def test_several_ways(self):
        # a and, at any time, b, from one of two places: nothing is told by them.
        reader = (2, [(0, "a", 0), (0, "a", 1), (0, "b", 0), (1, "a", 0), (1, "b", 1)])
        self.assertEqual((1, [(0, "a", 0), (0, "b", 0)]), self.check_least(reader))
        # The same rows as EVEN, with a second way to go on behind a.
        reader = (3, [(0, "a", 0), (0, "b", 1), (0, "b", 2), (1, "b", 0), (2, "b", 0)])
        self.assertEqual(EVEN, self.check_least(reader))

    def test_more_places_than_the_reader_has(self):
        many = self.check_least((6, LONG_PARTED))[0]
        self.assertEqual(58, many)

    def test_the_same_for_readers_that_read_the_same(self):
        lot = chance(74)
        for reader in whole_readers(75, 60):
            net = least_net(reader)
            order = list(range(reader[0]))
            lot.shuffle(order)
            self.assertEqual(net, least_net(placed(reader, order)))
            if reader[0] <= 3 and together(doubled(reader)):
                self.assertEqual(net, least_net(doubled(reader)))
            self.assertEqual(net, least_net(net))

    def test_told_readers(self):
        for signs, bars in WORLDS + [(2, ["aaaaaa"]), (2, ["abaaba", "bbb"]), (3, ["abcab", "babac"]), (4, ["adda"])]:
            reader = reader_of(signs, bars)[1]
            self.check_least(reader)
        self.assertEqual((2, [(0, "a", 0), (0, "b", 1), (1, "a", 0)]), least_net(reader_of(2, ["bb", "bbba"])[1]))
        for reader in whole_readers(76, 40):
            sets, told = sets_of(reader)
            if together(told):
                self.assertEqual(least_net(reader), least_net(told))

    def test_the_world_without_a_row(self):
        self.assertEqual((0, []), check_own(self, least_net, (0, [])))

    def test_not_whole(self):
        for reader in NOT_WHOLE:
            check_refused(self, NoWhole, least_net, reader)
        check_refused(self, NoWhole, least_net, reader_of(2, ["ba"])[1])


class TellingWordTest(unittest.TestCase):

    def all_ends(self, net, word):
        return ends_of_word(net, frozenset(range(net[0])), word)

    def check_telling(self, reader):
        """No shorter word and none ahead of it tells a place; told is the tuple."""
        told = check_own(self, telling_word, reader)
        self.assertIsInstance(told, tuple)
        word, place = told
        net = least_net(reader)
        self.assertEqual({place}, self.all_ends(net, word))
        level = {frozenset(range(net[0])): ""}
        met = set(level)
        while not any([len(places) == 1 for places in level]):
            longer = {}
            for places, ahead in level.items():
                for mark in "abcd":
                    ends = marked_ends(net, places, mark)
                    if ends and ends not in met:
                        longer[ends] = min(longer.get(ends, ahead + mark), ahead + mark)
            met.update(longer)
            level = longer
        self.assertEqual(min([ahead for places, ahead in level.items() if len(places) == 1]), word)
        return told

    def test_one_place(self):
        for marks in ("a", "d", "bc", "abcd"):
            self.assertEqual(("", 0), self.check_telling((1, [(0, mark, 0) for mark in marks])))
        self.assertEqual(("", 0), telling_word((6, [(place, "a", (place + 1) % 6) for place in range(6)])))

    def test_ordinary_ones(self):
        self.assertEqual(("a", 0), telling_word(EVEN))
        self.assertEqual(("a", 1), telling_word((2, [(0, "b", 0), (0, "c", 1), (1, "a", 0)])))
        # b and c both tell a place, a tells none.
        self.assertEqual(("b", 0), telling_word((2, [(0, "a", 1), (0, "b", 0), (0, "c", 1), (1, "a", 0)])))

    def test_by_the_numbers_of_the_least_net(self):
        lot = chance(77)
        for reader in whole_readers(78, 40):
            order = list(range(reader[0]))
            lot.shuffle(order)
            if least_net(reader)[0] <= 8:
                self.assertEqual(telling_word(reader), telling_word(placed(reader, order)))

    def test_by_all_words(self):
        for reader in [EVEN] + whole_readers(79, 60):
            net = least_net(reader)
            if net[0] > 8:
                continue
            word, place = self.check_telling(reader)
            if len(word) <= 4:
                for many in range(len(word) + 1):
                    for parts in itertools.product("abcd", repeat=many):
                        if (many, "".join(parts)) < (len(word), word):
                            self.assertNotEqual(1, len(self.all_ends(net, parts)))

    def test_a_word_of_many_signs(self):
        self.assertEqual(11, len(self.check_telling((6, TURNED))[0]))
        self.assertEqual(13, len(self.check_telling((6, SEVERAL_WAYS))[0]))

    def test_eight_places_and_more(self):
        sizes = {8: 0, 9: 0}
        lot = chance(80)
        while min(sizes.values()) < 3:
            reader = reader_by_chance(lot, 2, False)
            many = least_net(reader)[0] if together(reader) else 0
            if many == 8:
                self.check_telling(reader)
            elif many > 8:
                check_refused(self, TooMany, telling_word, reader)
            if many in sizes:
                sizes[many] += 1
        check_refused(self, TooMany, telling_word, (6, LONG_PARTED))

    def test_not_whole(self):
        for reader in NOT_WHOLE:
            check_refused(self, NoWhole, telling_word, reader)
        # Its sets have more than eight places, too, but it does not hang together.
        many, arrows = least_net((6, LONG_PARTED))
        check_refused(self, NoWhole, telling_word, (many + 1, arrows))


class PartingWordTest(unittest.TestCase):

    def check_parting(self, reader, p, q):
        found = parting_of_sets(reader, [p], reader, [q])
        word = check_own(self, parting_word, reader, p, q)
        self.assertEqual(None if found is None else found[0], word)
        return word

    def test_ordinary_ones(self):
        self.assertEqual("a", parting_word(EVEN, 0, 1))
        self.assertEqual("a", parting_word(LINE, 0, 1))
        self.assertEqual("b", parting_word(LINE, 1, 2))
        reader = (3, [(0, "a", 1), (0, "b", 2), (1, "a", 2), (1, "b", 0), (2, "a", 2)])
        self.assertEqual("ab", parting_word(reader, 0, 1))
        self.assertEqual("b", parting_word(reader, 0, 2))

    def test_of_several_the_first(self):
        reader = (4, [(0, "a", 2), (0, "b", 3), (1, "a", 3), (1, "b", 2), (2, "c", 0), (3, "d", 1)])
        self.assertEqual("ac", parting_word(reader, 0, 1))
        self.assertEqual("c", parting_word(reader, 2, 3))
        self.assertEqual("c", parting_word(reader, 3, 2))

    def test_none(self):
        self.assertIsNone(parting_word(EVEN, 0, 0))
        self.assertIsNone(parting_word((2, [(0, "a", 1), (1, "a", 0)]), 0, 1))
        self.assertIsNone(parting_word((6, []), 0, 5))
        for many in (2, 3):
            self.assertIsNone(parting_word(doubled((many, EVEN[1])), 0, many))

    def test_many_readers(self):
        lot = chance(81)
        for time in range(150):
            reader = reader_by_chance(lot, lot.randint(1, 4), True)
            for p in range(reader[0]):
                for q in range(reader[0]):
                    self.assertEqual(self.check_parting(reader, p, q), parting_word(reader, q, p))

    def test_in_a_least_net_each_two_are_parted(self):
        for reader in whole_readers(82, 40):
            net = least_net(reader)
            for p in range(min(net[0], 8)):
                for q in range(p):
                    self.assertIsNotNone(self.check_parting(net, p, q))

    def test_a_word_of_many_signs(self):
        line = (6, [(place, "a", place + 1) for place in range(5)])
        self.assertEqual("aaaaa", parting_word(line, 0, 1))
        net = least_net((6, LONG_PARTED))
        longest = max([(len(parting_word(net, p, q)), p, q) for p in range(net[0]) for q in range(p)])
        self.assertEqual(31, longest[0])
        self.check_parting(net, longest[1], longest[2])

    def test_readers_of_bars(self):
        for signs, bars in WORLDS:
            reader = reader_of(signs, bars)[1]
            for p in range(0, reader[0], 3):
                self.check_parting(reader, p, 0)

    def test_not_one_way_ahead_of_no_word(self):
        reader = (2, [(0, "a", 0), (0, "a", 1), (1, "b", 0)])
        check_refused(self, NotOneWay, parting_word, reader, 0, 1)
        check_refused(self, NotOneWay, parting_word, reader, 0, 0)
        check_refused(self, NotOneWay, parting_word, reader, 2, 0)
        check_refused(self, NotOneWay, parting_word, reader, 0, -1)

    def test_a_place_that_is_none(self):
        for reader in (EVEN, LINE, (1, []), (6, [])):
            for wrong in (-1, -2, reader[0], reader[0] + 1, 10 ** 30, -10 ** 30):
                check_refused(self, NoWord, parting_word, reader, wrong, 0)
                check_refused(self, NoWord, parting_word, reader, 0, wrong)
                check_refused(self, NoWord, parting_word, reader, wrong, wrong)
            self.assertIsNone(parting_word(reader, reader[0] - 1, reader[0] - 1))
        check_refused(self, NoWord, parting_word, (0, []), 0, 0)


class OtherQuestionsTest(unittest.TestCase):

    def test_an_answer_is_the_same_behind_other_questions(self):
        asked = [reader for reader in whole_readers(83, 60) if least_net(reader)[0] <= 8]
        first = [(least_net(reader), telling_word(reader)) for reader in asked]
        parted = [parting_word(net, 0, net[0] - 1) for net, told in first]
        for reader, right, word in list(zip(asked, first, parted))[::-1]:
            self.assertEqual(word, parting_word(right[0], 0, right[0][0] - 1))
            self.assertEqual(right, (least_net(reader), telling_word(reader)))


if __name__ == "__main__":
    unittest.main()
