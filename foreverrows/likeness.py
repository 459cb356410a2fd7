"""Whether two readers have the same rows, and how long the windows of a reader must be."""

from foreverrows.errors import NoWhole
from foreverrows.leastnets import least_net, parted, ways_of
from foreverrows.readers import reads, sets_of, together


def same_rows(one, other):
    """("same",), or ("word", word, which): a word that just one of the two readers reads."""
    if not together(one) or not together(other):
        raise NoWhole("one of the readers does not hang together")
    one_sets = sets_of(one)[1]
    word = parted(ways_beside(one_sets, sets_of(other)[1]), 0, one_sets[0])
    if word is None:
        return ("same",)
    return ("word", word, 0 if reads(one, word) else 1)


def ways_beside(one, other):
    """The ways of two readers in one, the places of the second numbered behind those of the first."""
    behind = one[0]
    ways = ways_of(one)
    for start, mark, end in other[1]:
        ways[(behind + start, mark)] = behind + end
    return ways


def window_length(reader):
    """("window", m), or ("loops", p, q, word) where windows of no length are enough."""
    pairs = pair_ways(least_net(reader))
    depths = pair_depths(pairs)
    if len(depths) < len(pairs):
        return loop_among({pair: pairs[pair] for pair in pairs if pair not in depths})
    # The longest words with walks that end at two unlike places are too short by just one sign.
    return ("window", max([depth + 1 for depth in depths.values()], default=0))


def pair_ways(net):
    """For each two unlike places the tuples (mark, pair) to which they are led, where these are unlike too."""
    many, arrows = net
    leaving = [{mark: end for start, mark, end in arrows if start == place} for place in range(many)]
    return {(p, q): unlike_ends(leaving[p], leaving[q]) for p in range(many) for q in range(many) if p != q}


def unlike_ends(one, other):
    """The tuples (mark, pair) of the marks that lead two places to unlike ones."""
    return [(mark, (end, other[mark])) for mark, end in one.items() if mark in other and other[mark] != end]


def pair_depths(pairs):
    """How many signs at most lead to a pair; of pairs to which walks of any length lead nothing."""
    waiting = {pair: 0 for pair in pairs}
    for ways in pairs.values():
        for mark, behind in ways:
            waiting[behind] += 1
    queue = [pair for pair in pairs if waiting[pair] == 0]
    depths = {pair: 0 for pair in queue}
    at = 0
    while at < len(queue):
        pair = queue[at]
        for mark, behind in pairs[pair]:
            waiting[behind] -= 1
            if waiting[behind] == 0:
                # Pairs stand in the queue by their depths, so that the last one ahead lies deepest.
                depths[behind] = depths[pair] + 1
                queue.append(behind)
        at += 1
    return depths


def loop_among(pairs):
    """("loops", p, q, word) among pairs each of which has one of them ahead."""
    ahead = {}
    for pair, ways in pairs.items():
        for mark, behind in ways:
            ahead[behind] = (pair, mark)
    # Gone back often enough, a pair is met that lies on the loop.
    met = list(pairs)[0]
    for step in range(len(pairs)):
        met = ahead[met][0]
    pair, word = ahead[met]
    while pair != met:
        pair, mark = ahead[pair]
        word = mark + word
    return ("loops", met[0], met[1], word)
