"""The group and the sign of a table, which no move changes, and classes of lists."""

from foreverrows.corners import corner_form, determinant
from foreverrows.fractions import fraction
from foreverrows.grids import plain_grid, taken_off


def less_grid(table):
    """The plain grid less the table."""
    return taken_off(plain_grid(len(table)), table)


def corners_of(table):
    """The corners of the less grid, in order."""
    corners = corner_form(less_grid(table))[1]
    return [row[at] for at, row in enumerate(corners)]


def group_of(table):
    """A tuple (orders, free): the corners above 1, and how many are 0."""
    corners = corners_of(table)
    return ([corner for corner in corners if corner > 1], corners.count(0))


def sign_of(table):
    """1, -1 or 0 as the determinant of the less grid is above, below or just 0."""
    whole = determinant(less_grid(table))
    if whole == 0:
        return 0
    return 1 if whole > 0 else -1


def same_class(table, one, other):
    """("same", times), the times of the rows of the less grid, or ("apart", weights), a fraction for each place."""
    left, corners, right = corner_form(less_grid(table))
    gap = [x - y for x, y in zip(one, other)]
    shares = [dot(gap, column_of(right, at)) for at in range(len(gap))]
    times = []
    for at, share in enumerate(shares):
        corner = corners[at][at]
        if not divides(corner, share):
            # A corner 0 makes each row 0, so that any bottom which parts the share will do.
            bottom = corner if corner != 0 else 2 * share
            return ("apart", [fraction(top, bottom) for top in column_of(right, at)])
        times.append(share // corner if corner != 0 else 0)
    return ("same", [dot(times, column_of(left, at)) for at in range(len(gap))])


def dot(one, other):
    """The sum of the numbers of one list, each times that of the other one."""
    return sum([x * y for x, y in zip(one, other)])


def column_of(grid, at):
    """One column of a grid."""
    return [row[at] for row in grid]


def divides(one, other):
    """Whether the first number divides the second; 0 divides 0 alone."""
    return other == 0 if one == 0 else other % one == 0
