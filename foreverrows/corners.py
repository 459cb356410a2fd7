"""Determinants, corner forms and grids turned back."""

from foreverrows.errors import NoBack
from foreverrows.fractions import common_shares
from foreverrows.grids import copied, flipped, plain_grid, require_square


def determinant(grid):
    """The determinant of a grid with as many rows as columns."""
    require_square(grid)
    return square_determinant(grid)


def square_determinant(grid):
    """The determinant by Bareiss' steps, 1 where there are no rows: no division leaves anything over."""
    rows = copied(grid)
    sign = 1
    ahead = 1
    while rows:
        firsts = [at for at, row in enumerate(rows) if row[0] != 0]
        if not firsts:
            return 0
        top = rows.pop(firsts[0])
        if firsts[0] % 2 == 1:
            sign = -sign
        rows = [bareiss_row(top, row, ahead) for row in rows]
        ahead = top[0]
    return sign * ahead


def bareiss_row(top, row, ahead):
    """The row without its first column, which the top row has made 0."""
    return [(top[0] * y - row[0] * x) // ahead for x, y in zip(top[1:], row[1:])]


def turned_back(grid):
    """The grid that makes the plain one, multiplied with this one from either side."""
    whole = determinant(grid)
    if whole not in (1, -1):
        raise NoBack("the determinant is neither 1 nor -1")
    places = list(range(len(grid)))
    return [[whole * cofactor(grid, j, i) for j in places] for i in places]


def cofactor(grid, i, j):
    """The determinant without row i and column j, with the sign of that place."""
    rows = grid[:i] + grid[i + 1:]
    part = square_determinant([row[:j] + row[j + 1:] for row in rows])
    return part if (i + j) % 2 == 0 else -part


def corner_form(grid):
    """A tuple (left, corners, right): left times the grid times right is corners."""
    middle = grid
    left = plain_grid(len(grid))
    turned_right = plain_grid(len(grid[0]))
    settled = False
    while not settled:
        middle, left = staired(middle, left)
        turned, turned_right = staired(flipped(middle), turned_right)
        middle = flipped(turned)
        settled = is_diagonal(middle)
    chain_corners(middle, left, turned_right)
    return (left, middle, flipped(turned_right))


def is_diagonal(grid):
    """Whether all entries beside the diagonal are 0."""
    return all([x == 0 or i == j for i, row in enumerate(grid) for j, x in enumerate(row)])


def staired(grid, beside):
    """The grid led to stairs by steps of rows, and the grid beside it led by the same steps.

    The rows are put in one after another, and made small at once: led column by column,
    the numbers would grow twice as long with each column.
    """
    width = len(grid[0])
    stairs = []
    empty = []
    for row, further in zip(grid, beside):
        left_over = put_in(stairs, row + further, width)
        if left_over is not None:
            empty.append(left_over)
        tidy(stairs, width)
    rows = stairs + empty
    return ([row[:width] for row in rows], [row[width:] for row in rows])


def put_in(stairs, row, width):
    """Put a row into the stairs; told is what is left of it, 0 in all columns, or None if it became a stair."""
    at = 0
    column = lead(row, width)
    while column < width:
        while at < len(stairs) and lead(stairs[at], width) < column:
            at += 1
        if at == len(stairs) or lead(stairs[at], width) > column:
            stairs.insert(at, row if row[column] > 0 else blended(row, -1, row, 0))
            return None
        stair = stairs[at]
        common, s, t = common_shares(stair[column], row[column])
        below = stairs[at + 1:]
        stairs[at] = made_small(blended(stair, s, row, t), below, width)
        row = blended(row, stair[column] // common, stair, -(row[column] // common))
        row = made_small(row, below, width)
        column = lead(row, width)
    return row


def tidy(stairs, width):
    """Make each stair small by those below it, from the last one up."""
    for at in reversed(range(len(stairs))):
        stairs[at] = made_small(stairs[at], stairs[at + 1:], width)


def made_small(row, stairs, width):
    """The row, less stairs so many times that it is from 0 on below each of them where that one begins."""
    for stair in stairs:
        column = lead(stair, width)
        times = row[column] // stair[column]
        if times != 0:
            row = blended(row, 1, stair, -times)
    return row


def lead(row, width):
    """The first column in which the row is not 0, or the width if there is none."""
    for column in range(width):
        if row[column] != 0:
            return column
    return width


def blended(one, s, other, t):
    """s times one row and t times another one."""
    return [s * x + t * y for x, y in zip(one, other)]


def chain_corners(middle, left, turned_right):
    """Lead the diagonal, whose numbers above 0 stand first, so that each divides the next one."""
    many = len([at for at in range(min(len(middle), len(middle[0]))) if middle[at][at] != 0])
    for i in range(many):
        for j in range(i + 1, many):
            if middle[j][j] % middle[i][i] != 0:
                chain_pair(middle, left, turned_right, i, j)


def chain_pair(middle, left, turned_right, i, j):
    """Make of two corners their common number and the least number that both divide."""
    one, other = middle[i][i], middle[j][j]
    common, s, t = common_shares(one, other)
    up, down = left[i], left[j]
    left[i] = blended(up, s, down, t)
    left[j] = blended(up, -(other // common), down, one // common)
    up, down = turned_right[i], turned_right[j]
    turned_right[i] = blended(up, 1, down, 1)
    turned_right[j] = blended(up, -t * (other // common), down, s * (one // common))
    middle[i][i] = common
    middle[j][j] = one // common * other
