"""Tables: vetted, their arrows, and walks between two places."""

from foreverrows.errors import NoTable
from foreverrows.fractions import is_whole
from foreverrows.reach import met_from

MOST_PLACES = 6
MOST_ARROWS = 40


def vet(table):
    """True where it is a table, else refused."""
    if not 1 <= len(table) <= MOST_PLACES:
        raise NoTable("a table has one to six rows")
    for row in table:
        if len(row) != len(table):
            raise NoTable("a table has as many columns as rows")
        if any([not is_whole(entry) or entry < 0 for entry in row]):
            raise NoTable("an entry of a table is a whole number from 0 on")
    if sum([sum(row) for row in table]) > MOST_ARROWS:
        raise NoTable("the entries of a table come together to at most forty")
    return True


def arrows_of(table):
    """The arrows (i, j, k) of a table, sorted."""
    return [(i, j, k) for i, row in enumerate(table) for j, entry in enumerate(row) for k in range(entry)]


def nexts_of(table):
    """For each place those to which an arrow leads."""
    return [[j for j, entry in enumerate(row) if entry > 0] for row in table]


def walk_between(table, i, j):
    """A walk from i to j with as few arrows as can be, one at least, or None."""
    ahead = met_from(nexts_of(table), i)
    if j not in ahead:
        return None
    walk = [(ahead[j], j, 0)]
    while walk[-1][0] != i:
        place = walk[-1][0]
        walk.append((ahead[place], place, 0))
    return walk[::-1]
