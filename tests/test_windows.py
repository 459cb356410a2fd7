"""Points [14], [15] and [16], and [2] of the same functions."""

import itertools
import unittest

from foreverrows.errors import NoBars, NoWord, TooMany
from foreverrows.windows import bridge, reader_of, stands, windows_of
from tests.helper import chance, check_own, check_refused

LONG_WAY = [
    "bbbbab", "aaabaa", "babbab", "babbba", "abbaba", "abaaa", "abbaaa", "aababa", "ababbb", "baabbb", "aaaabb",
    "bbaabb",
]
WORLDS = [
    (2, []), (3, []), (4, []), (2, ["a"]), (3, ["b"]), (4, ["a", "d"]), (2, ["bb"]), (2, ["ba"]), (2, ["ab", "ba"]),
    (3, ["ab", "bc", "ca"]), (3, ["aa", "bb", "cc"]), (2, ["aa", "bb"]), (2, ["aba", "bb"]), (2, ["aab", "bba"]),
    (4, ["ab", "ba", "cd", "dc", "aa", "bb"]), (3, ["b", "ac", "ca"]), (3, ["cb", "ba", "ca"]), (2, LONG_WAY),
]
EMPTY = [
    (2, ["a", "b"]), (2, ["a", "bb"]), (2, ["aa", "bb", "ab"]), (2, ["aaa", "b"]), (3, ["a", "b", "c"]),
    (2, ["aa", "ba", "bb"]), (3, ["aa", "bb", "cc", "ba", "ca", "cb"]), (2, ["aaaaaa", "b"]), (4, ["a", "b", "c", "d"]),
]


def worlds():
    """The worlds above, and some by chance."""
    lot = chance(51)
    made = WORLDS + EMPTY
    for time in range(60):
        signs = lot.choice([2, 2, 3, 4])
        longest = {2: lot.choice([3, 4, 6]), 3: lot.choice([3, 4]), 4: 3}[signs]
        many = lot.randint(1, 12)
        bars = [word_by_chance(lot, signs, lot.randint(2, longest)) for bar in range(many)]
        made.append((signs, bars))
    return made


def word_by_chance(lot, signs, many):
    return "".join([lot.choice("abcd"[:signs]) for sign in range(many)])


def words(signs, many):
    return ["".join(parts) for parts in itertools.product("abcd"[:signs], repeat=many)]


def free(bars, word):
    return all([word.find(bar) == -1 for bar in bars])


class World:
    """Another way to ask what stands: a word is gone on with, sign by sign, 130 times to each side.

    There are fewer than 130 ends of words that count, so that one which goes on so far goes on without end.
    """

    def __init__(self, signs, bars):
        self.signs = "abcd"[:signs]
        self.bars = bars
        self.longest = max([len(bar) for bar in bars], default=1)
        self.known = {}

    def goes_on(self, word, bars, side):
        end = word[len(word) - self.longest + 1:] if self.longest > 1 else ""
        if (end, side) not in self.known:
            ends = {end}
            for time in range(130):
                longer = {one + sign for one in ends for sign in self.signs}
                behind = {one[1:] if len(one) >= self.longest else one for one in longer if free(bars, one)}
                if behind == ends:
                    break
                ends = behind
            self.known[(end, side)] = bool(ends)
        return self.known[(end, side)]

    def stands(self, word):
        if any([sign not in self.signs for sign in word]) or not free(self.bars, word):
            return False
        if len(word) < self.longest - 1 or not word:
            return any([self.stands(word + sign) for sign in self.signs])
        back = [bar[::-1] for bar in self.bars]
        return self.goes_on(word, self.bars, "right") and self.goes_on(word[::-1], back, "left")

    def windows(self):
        return [word for word in words(len(self.signs), max(self.longest - 1, 1)) if self.stands(word)]

    def behind(self, windows):
        """For each window a dict of signs and the windows to which they lead."""
        return {window: {sign: (window + sign)[1:] for sign in self.signs if self.stands(window + sign)}
                for window in windows}


class WindowsTest(unittest.TestCase):

    def test_ordinary_ones(self):
        self.assertEqual(["a", "b"], windows_of(2, []))
        self.assertEqual(["a", "b", "c", "d"], windows_of(4, []))
        self.assertEqual(["a", "c"], windows_of(3, ["b"]))
        self.assertEqual(["a", "b"], windows_of(2, ["bb"]))
        self.assertEqual(["aa", "ab", "ba"], windows_of(2, ["bb", "bbb"]))
        self.assertEqual(["ab", "ba"], windows_of(2, ["bb", "aa", "bbb"]))

    def test_a_world_without_a_row(self):
        for signs, bars in EMPTY:
            self.assertEqual([], check_own(self, windows_of, signs, bars))

    def test_words_that_go_on_to_one_side_alone(self):
        # Ahead of b and c no sign may stand, so that they are begun, but not gone back from.
        self.assertEqual(["a"], windows_of(3, ["ab", "bb", "cb", "ac", "bc", "cc"]))
        # Behind b and c no sign may stand.
        self.assertEqual(["a"], windows_of(3, ["ba", "bb", "bc", "ca", "cb", "cc"]))
        # Behind b two signs may stand, but no third one: the words with b fall away one after another.
        self.assertEqual(["aaa"], windows_of(2, ["baaa", "bb", "bab", "baab"]))

    def test_by_going_on_without_end(self):
        for signs, bars in worlds():
            self.assertEqual(World(signs, bars).windows(), check_own(self, windows_of, signs, bars))

    def test_bars_twice_and_in_another_order(self):
        self.assertEqual(windows_of(2, ["aba", "bb"]), windows_of(2, ["bb", "aba", "bb", "aba"]))


class StandsTest(unittest.TestCase):

    def test_the_word_without_signs(self):
        for signs, bars in WORLDS:
            self.assertIs(True, check_own(self, stands, signs, bars, ""))
        for signs, bars in EMPTY:
            self.assertIs(False, check_own(self, stands, signs, bars, ""))

    def test_no_word_stands_where_there_is_no_row(self):
        for signs, bars in EMPTY:
            for many in range(4):
                for word in words(signs, many):
                    self.assertIs(False, stands(signs, bars, word))

    def test_free_of_bars_but_not_gone_on_with(self):
        bars = ["ba", "bb"]
        self.assertIs(False, stands(2, bars, "b"))
        self.assertIs(False, stands(2, bars, "ab"))
        self.assertIs(True, stands(2, bars, "aaaaaaaaaa"))
        bars = ["ab", "bb"]
        self.assertIs(False, stands(2, bars, "b"))
        self.assertIs(False, stands(2, bars, "ba"))
        # Each window of the longer word stands, the longer word does not.
        self.assertIs(True, stands(2, ["aaabbb"], "aabbb"))
        self.assertIs(False, stands(2, ["aaabbb"], "aaabbb"))

    def test_shorter_than_a_window(self):
        self.assertIs(True, stands(2, ["aaaaaa"], "a"))
        self.assertIs(False, stands(2, ["bbbbbb", "ba", "bbbb"], "b"))
        self.assertIs(True, stands(2, ["bbbbbb", "ba"], "aa"))
        self.assertIs(False, stands(2, ["bbbbbb", "ba"], "ab"))

    def test_texts_with_another_sign(self):
        for word in ("c", "ac", "cabab", "ababababac", "A", "a b", " ", "1", "e", "d"):
            self.assertIs(False, stands(2, [], word))
            self.assertIs(False, stands(2, ["aaaaaa"], word))
        self.assertIs(True, stands(3, [], "c"))
        self.assertIs(False, stands(3, [], "d"))
        self.assertIs(True, stands(4, [], "abcdabcdab"))
        self.assertIs(False, stands(4, [], "abcdabcdae"))

    def test_ten_signs(self):
        self.assertIs(True, stands(2, ["bb"], "abababaaab"))
        self.assertIs(False, stands(2, ["bb"], "abababaabb"))
        self.assertIs(False, stands(2, ["bb"], "bbababaaab"))
        lot = chance(52)
        for signs, bars in worlds():
            world = World(signs, bars)
            for time in range(6):
                word = word_by_chance(lot, signs, 10)
                self.assertIs(world.stands(word), stands(signs, bars, word))

    def test_all_short_words(self):
        for signs, bars in WORLDS + EMPTY:
            world = World(signs, bars)
            for many in range(5 if signs == 2 else 4):
                for word in words(signs, many):
                    self.assertIs(world.stands(word), stands(signs, bars, word))

    def test_words_along_rows(self):
        for signs, bars in worlds():
            windows, (many, arrows) = reader_of(signs, bars)
            lot = chance(53)
            for at in range(min(many, 4)):
                word = windows[at]
                while len(word) < 10:
                    sign, at = lot.choice([(mark, end) for start, mark, end in arrows if start == at])
                    word += sign
                self.assertIs(True, check_own(self, stands, signs, bars, word))


class ReaderTest(unittest.TestCase):

    def test_ordinary_ones(self):
        right = (["a", "b"], (2, [(0, "a", 0), (0, "b", 1), (1, "a", 0)]))
        self.assertEqual(right, reader_of(2, ["bb"]))
        right = (["a", "c"], (2, [(0, "a", 0), (0, "c", 1), (1, "a", 0), (1, "c", 1)]))
        self.assertEqual(right, reader_of(3, ["b"]))
        right = (["aa", "ab", "ba"], (3, [(0, "a", 0), (0, "b", 1), (1, "a", 2), (2, "a", 0)]))
        self.assertEqual(right, reader_of(2, ["bab", "bb"]))

    def test_no_windows(self):
        for signs, bars in EMPTY:
            self.assertEqual(([], (0, [])), check_own(self, reader_of, signs, bars))

    def test_an_arrow_needs_its_whole_word(self):
        windows, (many, arrows) = reader_of(2, ["aaa"])
        self.assertEqual(["aa", "ab", "ba", "bb"], windows)
        self.assertEqual([(0, "b", 1)], [arrow for arrow in arrows if arrow[0] == 0])

    def test_by_going_on_without_end(self):
        for signs, bars in worlds():
            told = check_own(self, reader_of, signs, bars)
            self.assertIsInstance(told, tuple)
            windows, reader = told
            self.assertIsInstance(reader, tuple)
            self.assertEqual(World(signs, bars).windows(), windows)
            behind = World(signs, bars).behind(windows)
            right = [(number, sign, windows.index(end)) for number, window in enumerate(windows)
                     for sign, end in behind[window].items()]
            self.assertEqual((len(windows), sorted(right)), reader)


class BridgeTest(unittest.TestCase):

    def test_the_word_without_signs(self):
        self.assertEqual("", bridge(2, [], "a", "b"))
        self.assertEqual("", bridge(2, ["bb"], "a", "b"))
        self.assertEqual("", bridge(2, ["ba"], "a", "b"))
        self.assertEqual("", bridge(2, ["aaaaaa"], "aaaaa", "bbbbb"))

    def test_the_second_window_stands_wholly_behind_the_first(self):
        # From ab one sign leads to ba, but ba is to stand behind ab: abba, which has a bar in it.
        self.assertEqual("a", bridge(2, ["bb", "bbb"], "ab", "ba"))

    def test_the_first_of_several_shortest(self):
        self.assertEqual("a", bridge(2, ["bb"], "b", "b"))
        self.assertEqual("b", bridge(3, ["aa"], "a", "a"))
        self.assertEqual("c", bridge(3, ["aa", "ab"], "a", "a"))
        # Of two signs there are ab and bb, ca and cc, aa and ab.
        self.assertEqual("ab", bridge(3, ["cbc", "acc", "aa", "ccc"], "bc", "cc"))
        self.assertEqual("ca", bridge(3, ["ba", "ac", "bcb", "cbb"], "cb", "bc"))
        self.assertEqual("aa", bridge(3, ["cbc", "bb", "cc", "bac"], "cb", "ca"))

    def test_a_shorter_one_comes_ahead_of_an_earlier_one(self):
        # Longer ones, as aab, come first as Python sorts texts.
        self.assertEqual("b", bridge(4, ["ad"], "a", "d"))

    def test_none(self):
        self.assertIsNone(bridge(2, ["ba"], "b", "a"))
        self.assertIsNone(bridge(2, ["ab", "ba"], "a", "b"))

    def test_a_bridge_of_many_signs(self):
        right = "babbaabaabbabbbbaaabbb"
        self.assertEqual(22, len(right))
        self.assertEqual(right, check_own(self, bridge, 2, LONG_WAY, "aaaaa", "ababa"))
        self.assertEqual(right, self.by_distances(2, LONG_WAY, "aaaaa", "ababa"))

    def by_distances(self, signs, bars, one, other):
        """The bridge by how far it is from each window on, and then the least sign that leads nearer."""
        world = World(signs, bars)
        windows = world.windows()
        behind = world.behind(windows)
        far = {window: 0 for window in windows if world.stands(window + other)}
        for time in windows:
            for window in windows:
                for end in behind[window].values():
                    if end in far and far[end] + 1 < far.get(window, 1000):
                        far[window] = far[end] + 1
        if one not in far:
            return None
        word = ""
        while far[one] > 0:
            sign = min([sign for sign, end in behind[one].items() if far.get(end) == far[one] - 1])
            word += sign
            one = behind[one][sign]
        return word

    def test_by_distances(self):
        lot = chance(54)
        nones = 0
        lengths = set()
        for signs, bars in worlds():
            windows = windows_of(signs, bars)
            for time in range(min(6, len(windows) ** 2)):
                one, other = lot.choice(windows), lot.choice(windows)
                right = self.by_distances(signs, bars, one, other)
                nones += right is None
                lengths.add(len(right or ""))
                self.assertEqual(right, check_own(self, bridge, signs, bars, one, other))
        self.assertGreater(nones, 5)
        self.assertGreater(len(lengths), 4)

    def test_by_trying_all_short_words(self):
        for signs, bars in WORLDS[:17]:
            world = World(signs, bars)
            for one in windows_of(signs, bars):
                for other in windows_of(signs, bars):
                    told = bridge(signs, bars, one, other)
                    tried = [word for many in range(4) for word in words(signs, many)]
                    found = [word for word in tried if world.stands(one + word + other)]
                    self.assertEqual(found[0] if found else None, told)

    def test_no_window(self):
        for one, other in (("a", "c"), ("c", "a"), ("", "a"), ("a", ""), ("aa", "a"), ("a", "ab"), ("x", "y")):
            check_refused(self, NoWord, bridge, 2, [], one, other)
        check_refused(self, NoWord, bridge, 3, ["b"], "b", "a")
        check_refused(self, NoWord, bridge, 3, ["b"], "a", "b")
        check_refused(self, NoWord, bridge, 2, ["ba", "bb"], "a", "b")
        check_refused(self, NoWord, bridge, 2, ["ba", "bb"], "b", "a")
        for signs, bars in EMPTY:
            check_refused(self, NoWord, bridge, signs, bars, "a", "a")


class RefusalsTest(unittest.TestCase):

    def check_all_refused(self, error, signs, bars):
        check_refused(self, error, windows_of, signs, bars)
        check_refused(self, error, stands, signs, bars, "a")
        check_refused(self, error, stands, signs, bars, "not a word")
        check_refused(self, error, stands, signs, bars, "")
        check_refused(self, error, reader_of, signs, bars)
        check_refused(self, error, bridge, signs, bars, "a", "a")
        check_refused(self, error, bridge, signs, bars, "no window", "")

    def test_all_refuse_first_as_vet_bars(self):
        for signs, bars in ((1, []), (5, []), (0, ["a"]), (2, ["c"]), (2, [""]), (2, ["a" * 7]), (2, ["a"] * 13)):
            self.check_all_refused(NoBars, signs, bars)
        for signs, bars in ((3, ["abcabc"]), (4, ["abcda"]), (4, ["abcdab"])):
            self.check_all_refused(TooMany, signs, bars)
        self.check_all_refused(NoBars, 4, ["abcda", "e"])

    def test_the_widest_worlds_are_not_refused(self):
        self.assertEqual(81, len(windows_of(3, ["abcab"])))
        self.assertEqual(64, len(windows_of(4, ["abcd"])))
        self.assertEqual(32, len(windows_of(2, ["ababab"])))
        self.assertEqual(3 ** 5 - 1, len(reader_of(3, ["abcab"])[1][1]))


class OtherQuestionsTest(unittest.TestCase):

    def test_an_answer_is_the_same_behind_other_questions(self):
        asked = worlds()
        first = [(windows_of(signs, bars), reader_of(signs, bars), stands(signs, bars, "ab")) for signs, bars in asked]
        for (signs, bars), right in list(zip(asked, first))[::-1]:
            told = (windows_of(signs, bars), reader_of(signs, bars), stands(signs, bars, "ab"))
            self.assertEqual(right, told)


if __name__ == "__main__":
    unittest.main()
