"""Barred words: vetted, and the width of the windows by which their world is seen."""

from foreverrows.errors import NoBars, TooMany
from foreverrows.fractions import is_whole

SIGNS = ("a", "b", "c", "d")
FEWEST_SIGNS = 2
MOST_BARS = 12
LONGEST_BAR = 6
MOST_WORDS = 128


def vet_bars(signs, bars):
    """True where signs and bars are as told, else refused."""
    require_bars(signs, bars)
    words = 1
    for place in range(plain_width(bars)):
        words = words * signs
    if words > MOST_WORDS:
        raise TooMany("there are more than 128 words of as many signs as the width")
    return True


def width_of(signs, bars):
    """How many signs a window has."""
    vet_bars(signs, bars)
    return plain_width(bars)


def require_bars(signs, bars):
    """Refuse with NoBars what is no number of signs, or no bars of them."""
    if not is_whole(signs) or not FEWEST_SIGNS <= signs <= len(SIGNS):
        raise NoBars("there are two, three or four signs")
    if len(bars) > MOST_BARS:
        raise NoBars("there are at most twelve bars")
    for bar in bars:
        if not 1 <= len(bar) <= LONGEST_BAR:
            raise NoBars("a bar has one to six signs")
        if any([sign not in SIGNS[:signs] for sign in bar]):
            raise NoBars("a bar has a sign that is none of these")


def plain_width(bars):
    """The width of bars that need not be refused."""
    longest = max([len(bar) for bar in bars], default=1)
    return max(longest - 1, 1)
