"""Readers: nets with marks at the arrows, the words that they read, and their sets of places."""

from foreverrows.bars import SIGNS
from foreverrows.errors import NoReader
from foreverrows.fractions import is_whole
from foreverrows.reach import all_meet_all

MOST_READER_PLACES = 6
MOST_READER_ARROWS = 30


def vet_reader(reader):
    """True where it is a reader, else refused."""
    many, arrows = reader
    if not is_whole(many) or not 1 <= many <= MOST_READER_PLACES:
        raise NoReader("a reader has one to six places")
    if len(arrows) > MOST_READER_ARROWS:
        raise NoReader("a reader has at most thirty arrows")
    for start, mark, end in arrows:
        if not is_place(many, start) or not is_place(many, end):
            raise NoReader("an arrow begins or ends at no place")
        if mark not in SIGNS:
            raise NoReader("a mark is one of the four signs")
    if any([one >= other for one, other in zip(arrows, arrows[1:])]):
        raise NoReader("the arrows are not sorted, or one stands twice")
    return True


def is_place(many, number):
    """Whether it is the number of one of so many places."""
    return is_whole(number) and 0 <= number < many


def led(arrows, places, mark):
    """The places, sorted, to which an arrow of the mark leads from one of the places."""
    held = {place: True for place in places}
    return sorted(set([end for start, sign, end in arrows if sign == mark and start in held]))


def reads(reader, word):
    """Whether the word is read from one of the places."""
    many, arrows = reader
    places = list(range(many))
    for sign in word:
        places = led(arrows, places, sign)
    return len(places) > 0


def together(reader):
    """Whether a walk leads from each place to each, also to itself."""
    many, arrows = reader
    nexts = [[] for place in range(many)]
    for start, mark, end in arrows:
        nexts[start].append(end)
    return all_meet_all(nexts)


def one_way(reader):
    """Whether from no place two arrows with one mark lead."""
    many, arrows = reader
    return len(set([(start, mark) for start, mark, end in arrows])) == len(arrows)


def sets_of(reader):
    """A tuple (sets, reader): the sets of places behind words, in the order in which they are met first."""
    many, arrows = reader
    sets = [list(range(many))]
    numbers = {tuple(sets[0]): 0}
    ways = []
    at = 0
    while at < len(sets):
        for mark in SIGNS:
            behind = led(arrows, sets[at], mark)
            if behind and tuple(behind) not in numbers:
                numbers[tuple(behind)] = len(sets)
                sets.append(behind)
            if behind:
                ways.append((at, mark, numbers[tuple(behind)]))
        at += 1
    return (sets, (len(sets), ways))
