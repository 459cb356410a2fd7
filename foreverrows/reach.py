"""Which places walks lead to: what tables and readers have in common.

Handed in is a list with a list of places for each place: those to which its arrows lead.
"""


def met_from(nexts, start):
    """The places to which a walk of one arrow or more leads, in the order in which they are met first.

    Told is a dict that gives for each of them the place ahead of it on a walk with as few arrows as can be.
    """
    ahead = {}
    queue = [start]
    at = 0
    while at < len(queue):
        place = queue[at]
        for behind in nexts[place]:
            if behind not in ahead:
                ahead[behind] = place
                queue.append(behind)
        at += 1
    return ahead


def all_meet_all(nexts):
    """Whether a walk of one arrow or more leads from each place to each, also to itself."""
    return all([len(met_from(nexts, place)) == len(nexts) for place in range(len(nexts))])
