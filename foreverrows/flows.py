"""Whether two tables flow alike: a road of moves from the one to the other one, or what parts them."""

from foreverrows.fulltables import require_flowing
from foreverrows.groups import group_of, sign_of
from foreverrows.looker import moves_back
from foreverrows.nets import require_whole
from foreverrows.plainroads import road_to_plain

FEWEST_PLACES = 2


def flow(one, other):
    """("road", moves), ("group", one's, other's) or ("sign", one's, other's)."""
    require_whole(one)
    require_whole(other)
    require_flowing(one)
    require_flowing(other)
    group, beside = group_of(one), group_of(other)
    if group != beside:
        return ("group", group, beside)
    if sign_of(one) != sign_of(other):
        return ("sign", sign_of(one), sign_of(other))
    return ("road", road_between(one, other))


def road_between(one, other):
    """The road from the one table to the plain one and from there to the other one, without what is gone to and fro."""
    places = max(FEWEST_PLACES, len(one), len(other))
    there = road_to_plain(one, places)
    # Both lead from the plain table: where their first moves are the same, so are the tables between.
    home = moves_back(one, there)
    further = moves_back(other, road_to_plain(other, places))
    same = 0
    while same < min(len(home), len(further)) and home[same] == further[same]:
        same += 1
    return there[:len(there) - same] + further[same:]
