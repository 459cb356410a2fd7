"""The world of barred words: its windows, which words stand in it, its reader, and bridges."""

from foreverrows.bars import SIGNS, width_of
from foreverrows.errors import NoWord


def windows_of(signs, bars):
    """The words of the width that stand in the world, sorted."""
    width = width_of(signs, bars)
    kept = {word: True for word in words_of(signs, width) if is_free(word, bars)}
    settled = False
    while not settled:
        still = {word: True for word in kept if goes_on_both_ways(signs, bars, kept, word)}
        settled = len(still) == len(kept)
        kept = still
    return sorted(kept)


def words_of(signs, width):
    """All words of as many signs as told, sorted."""
    words = [""]
    for place in range(width):
        words = [word + sign for word in words for sign in SIGNS[:signs]]
    return words


def is_free(word, bars):
    """Whether no bar stands in the word."""
    return not any([bar in word for bar in bars])


def goes_on_both_ways(signs, bars, kept, word):
    """Whether a kept word follows on this one, and one comes ahead of it."""
    behind = [word + sign for sign in SIGNS[:signs]]
    ahead = [sign + word for sign in SIGNS[:signs]]
    follows = any([longer[1:] in kept and is_free(longer, bars) for longer in behind])
    return follows and any([longer[:-1] in kept and is_free(longer, bars) for longer in ahead])


def stands(signs, bars, word):
    """Whether the word stands in the world."""
    return stands_by(windows_of(signs, bars), bars, word)


def stands_by(windows, bars, word):
    """Whether the word stands in the world that has these windows.

    No bar is longer than a window by more than one sign, and each window goes on to both sides without end.
    """
    if not windows:
        return False
    width = len(windows[0])
    if len(word) < width:
        return any([window.startswith(word) for window in windows])
    parts = [word[at:at + width] for at in range(len(word) - width + 1)]
    return is_free(word, bars) and all([part in windows for part in parts])


def reader_of(signs, bars):
    """A tuple (windows, reader), the windows being the places of the reader."""
    windows = windows_of(signs, bars)
    numbers = {window: number for number, window in enumerate(windows)}
    arrows = []
    for window in windows:
        for sign in SIGNS[:signs]:
            if stands_by(windows, bars, window + sign):
                arrows.append((numbers[window], sign, numbers[window[1:] + sign]))
    return (windows, (len(windows), arrows))


def bridge(signs, bars, one, other):
    """The shortest word, of several the first, that leads from the one window to the other one, or None."""
    windows = windows_of(signs, bars)
    if one not in windows or other not in windows:
        raise NoWord("one of the two is no window")
    # Windows are met by shorter words first, and by those of one length in their order.
    words = {one: ""}
    queue = [one]
    at = 0
    while at < len(queue):
        window = queue[at]
        if stands_by(windows, bars, window + other):
            return words[window]
        for sign in SIGNS[:signs]:
            behind = window[1:] + sign
            if behind not in words and stands_by(windows, bars, window + sign):
                words[behind] = words[window] + sign
                queue.append(behind)
        at += 1
    return None
