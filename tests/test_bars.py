"""Point [13], and [2] of the same functions."""

import unittest

from foreverrows.bars import vet_bars, width_of
from foreverrows.errors import NoBars, TooMany
from tests.helper import check_own, check_refused

DEEDS = (vet_bars, width_of)


class BarsTest(unittest.TestCase):

    def check_width(self, width, signs, bars):
        self.assertIs(True, check_own(self, vet_bars, signs, bars))
        self.assertEqual(width, check_own(self, width_of, signs, bars))

    def check_bars_refused(self, error, signs, bars):
        for deed in DEEDS:
            check_refused(self, error, deed, signs, bars)

    def test_no_bars(self):
        for signs in (2, 3, 4):
            self.check_width(1, signs, [])

    def test_bars_of_one_sign_only(self):
        self.check_width(1, 2, ["a"])
        self.check_width(1, 2, ["a", "b"])
        self.check_width(1, 4, ["d", "b", "d"])

    def test_one_less_than_the_longest(self):
        self.check_width(1, 2, ["ab"])
        self.check_width(1, 4, ["a", "dd"])
        self.check_width(2, 2, ["aba"])
        self.check_width(2, 4, ["a", "abc", "dd"])
        self.check_width(4, 2, ["a", "ababa", "bb"])
        self.check_width(5, 2, ["aaaaaa"])
        self.check_width(5, 2, ["bbbbbb", "a"])

    def test_numbers_of_signs(self):
        for signs in (1, 0, -1, -2, 5, 6, 10 ** 30, -10 ** 30):
            self.check_bars_refused(NoBars, signs, [])
            self.check_bars_refused(NoBars, signs, ["a"])

    def test_a_truth_is_no_number_of_signs(self):
        self.check_bars_refused(NoBars, True, [])

    def test_twelve_bars_and_thirteen(self):
        self.check_width(1, 2, ["ab"] * 12)
        self.check_width(5, 2, ["ab"] * 11 + ["ababab"])
        self.check_bars_refused(NoBars, 2, ["ab"] * 13)
        self.check_bars_refused(NoBars, 2, ["a", "b"] * 7)

    def test_a_bar_without_signs(self):
        self.check_bars_refused(NoBars, 2, [""])
        self.check_bars_refused(NoBars, 3, ["a", "", "b"])

    def test_a_bar_of_six_signs_and_of_seven(self):
        self.check_width(5, 2, ["abbaba"])
        self.check_bars_refused(NoBars, 2, ["abbabaa"])
        self.check_bars_refused(NoBars, 2, ["ab", "a" * 7])

    def test_a_bar_with_another_sign(self):
        for signs, others in ((2, "cdeA1 "), (3, "deA1 "), (4, "eA1 ")):
            for other in others:
                self.check_bars_refused(NoBars, signs, [other])
                self.check_bars_refused(NoBars, signs, ["ab", "a" + other])
                self.check_bars_refused(NoBars, signs, [other + "a", "ab"])
        self.check_width(1, 3, ["c"])
        self.check_width(1, 4, ["d"])

    def test_as_many_words_as_may_be_and_more(self):
        # No bars that are not refused have a width of just 128 words: the nearest are 81 and 243, 64 and 256.
        self.check_width(5, 2, ["aaaaaa"])
        self.check_width(4, 3, ["abcab"])
        self.check_bars_refused(TooMany, 3, ["abcabc"])
        self.check_width(3, 4, ["abcd"])
        self.check_bars_refused(TooMany, 4, ["abcda"])
        self.check_bars_refused(TooMany, 4, ["a", "abcdab", "b"])

    def test_no_bars_ahead_of_too_many(self):
        self.check_bars_refused(NoBars, 3, ["abcabc", "d"])
        self.check_bars_refused(NoBars, 3, ["abcabc", ""])
        self.check_bars_refused(NoBars, 4, ["", "abcda"])
        self.check_bars_refused(NoBars, 4, ["abcda", "abcdabc"])
        self.check_bars_refused(NoBars, 4, ["abcda"] * 13)
        self.check_bars_refused(NoBars, 5, ["abcda"])
        self.check_bars_refused(TooMany, 4, ["abcda"] * 12)


if __name__ == "__main__":
    unittest.main()
