"""Least nets of readers, words that tell a place of them, and words that part two places."""

from foreverrows.bars import SIGNS
from foreverrows.errors import NotOneWay, NoWhole, NoWord, TooMany
from foreverrows.reach import met_from
from foreverrows.readers import is_place, one_way, sets_of, together

MOST_TOLD_PLACES = 8


def least_net(reader):
    """The reader with the fewest places that hangs together, reads one way and reads the same words."""
    if not together(reader):
        raise NoWhole("the reader does not hang together")
    many, ways = merged(reader if one_way(reader) else sets_of(reader)[1])
    nets = [numbered(ways, start) for start in last_part(many, ways)]
    return min(nets, key=lambda net: net[1], default=(0, []))


def ways_of(reader):
    """The place behind a place and a mark, of a reader that reads one way."""
    many, arrows = reader
    return {(start, mark): end for start, mark, end in arrows}


def merged(reader):
    """A tuple (many, ways): the places of a reader that reads one way, those from which the same is read as one."""
    many, arrows = reader
    ways = ways_of(reader)
    classes = [0] * many
    known = 1
    settled = False
    while not settled:
        looks = [look_of(ways, classes, place) for place in range(many)]
        numbers = {}
        classes = [numbers.setdefault(look, len(numbers)) for look in looks]
        settled = len(numbers) == known
        known = len(numbers)
    return (known, {(classes[start], mark): classes[end] for start, mark, end in arrows})


def look_of(ways, classes, place):
    """The class of a place, and those to which its marks lead, -1 where one leads nowhere."""
    ends = [ways.get((place, mark)) for mark in SIGNS]
    return tuple([classes[place]] + [-1 if end is None else classes[end] for end in ends])


def last_part(many, ways):
    """The places from which no walk leads away for good.

    From each set of places walks lead on to sets behind a word that tells all that may follow, and none leads back:
    so there is just one such part, and the fewest places are met from it.
    """
    nexts = [[] for place in range(many)]
    for (start, mark), end in ways.items():
        nexts[start].append(end)
    met = [list(met_from(nexts, place)) for place in range(many)]
    return min(met, key=len, default=[])


def numbered(ways, start):
    """The reader with the start as place 0 and the others in the order in which they are met first."""
    numbers = {start: 0}
    order = [start]
    arrows = []
    at = 0
    while at < len(order):
        for mark in SIGNS:
            end = ways.get((order[at], mark))
            if end is not None and end not in numbers:
                numbers[end] = len(order)
                order.append(end)
            if end is not None:
                arrows.append((at, mark, numbers[end]))
        at += 1
    return (len(order), arrows)


def telling_word(reader):
    """A tuple (word, place): the shortest word, of several the first, that tells a place of the least net."""
    least = least_net(reader)
    if least[0] > MOST_TOLD_PLACES:
        raise TooMany("the least net has more than eight places")
    sets, (many, arrows) = sets_of(least)
    # Sets are met by shorter words first, and by those of one length in their order.
    single = [number for number, places in enumerate(sets) if len(places) == 1][0]
    return (first_word(arrows, single), sets[single][0])


def first_word(arrows, number):
    """The marks on the way by which a set was met first, from the set 0 on."""
    firsts = {}
    for start, mark, end in arrows:
        firsts.setdefault(end, (start, mark))
    word = ""
    while number != 0:
        number, mark = firsts[number]
        word = mark + word
    return word


def parting_word(reader, p, q):
    """The shortest word, of several the first, that is read from just one of the two places, or None."""
    if not one_way(reader):
        raise NotOneWay("the reader does not read one way")
    many, arrows = reader
    if not is_place(many, p) or not is_place(many, q):
        raise NoWord("one of the two is no place")
    return parted(ways_of(reader), p, q)


def parted(ways, p, q):
    """The parting word of two places, found along pairs of places, or None."""
    words = {(p, q): ""}
    queue = [(p, q)]
    at = 0
    while at < len(queue):
        one, other = queue[at]
        for mark in SIGNS:
            behind = (ways.get((one, mark)), ways.get((other, mark)))
            word = words[queue[at]] + mark
            if (behind[0] is None) != (behind[1] is None):
                return word
            if behind[0] is not None and behind not in words:
                words[behind] = word
                queue.append(behind)
        at += 1
    return None
