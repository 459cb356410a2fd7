"""Grids of whole numbers: added, taken off, multiplied, taken to a power, stepped."""

from foreverrows.errors import NoGrid, NoStep


def plain_grid(n):
    """The grid of n rows with 1 on the diagonal, 0 beside it."""
    return [[1 if i == j else 0 for j in range(n)] for i in range(n)]


def copied(grid):
    """The same grid in new lists."""
    return [list(row) for row in grid]


def flipped(grid):
    """The grid whose rows are the columns of this one."""
    return [[row[at] for row in grid] for at in range(len(grid[0]))]


def require_square(grid):
    """Refuse a grid that has not as many rows as columns."""
    if any([len(row) != len(grid) for row in grid]):
        raise NoGrid("there are not as many rows as columns")


def require_one_shape(one, other):
    """Refuse two grids of unlike shapes."""
    if [len(row) for row in one] != [len(row) for row in other]:
        raise NoGrid("the grids are not of one shape")


def added(one, other):
    """The two grids together."""
    require_one_shape(one, other)
    return [[x + y for x, y in zip(row, beside)] for row, beside in zip(one, other)]


def taken_off(one, other):
    """The first grid less the second."""
    require_one_shape(one, other)
    return [[x - y for x, y in zip(row, beside)] for row, beside in zip(one, other)]


def multiplied(one, other):
    """The first grid times the second."""
    if any([len(row) != len(other) for row in one]):
        raise NoGrid("the first grid has not as many columns as the second rows")
    columns = flipped(other)
    return [[sum([x * y for x, y in zip(row, column)]) for column in columns] for row in one]


def powered(grid, many):
    """The grid taken to a power from 0 on."""
    require_square(grid)
    made = plain_grid(len(grid))
    doubled = grid
    while many > 0:
        if many % 2 == 1:
            made = multiplied(made, doubled)
        many = many // 2
        if many > 0:
            doubled = multiplied(doubled, doubled)
    return made


def stepped(grid, step):
    """The grid with q times a row or column added to another one."""
    word, i, j, q = step
    if word == "row":
        return row_stepped(grid, i, j, q)
    if word == "column":
        return flipped(row_stepped(flipped(grid), i, j, q))
    raise NoStep("a step is by row or by column")


def row_stepped(grid, i, j, q):
    """The grid with q times row j added to row i."""
    if i == j or not 0 <= i < len(grid) or not 0 <= j < len(grid):
        raise NoStep("i and j are not two unlike rows or columns")
    made = copied(grid)
    made[i] = [x + q * y for x, y in zip(grid[i], grid[j])]
    return made
