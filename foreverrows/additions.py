"""Counted additions of rows and columns, their ways back, their papers, and rows led along.

An addition of columns is that of rows with all arrows turned about.
"""

from foreverrows.errors import NoMove
from foreverrows.grids import copied, flipped


def addition_done(table, move):
    """The table to which an addition leads."""
    if move[0] not in ("row", "column"):
        raise NoMove("the move is no addition")
    word, i, j, q = move
    if word == "column":
        return flipped(rows_added(flipped(table), i, j, q))
    return rows_added(table, i, j, q)


def addition_back(table, move):
    """The addition that leads back from the table to which this one leads."""
    addition_done(table, move)
    word, i, j, q = move
    return (word, i, j, -q)


def rows_added(table, i, j, q):
    """The table with q times row j, less the plain one, added to row i, where this can be done, else refused."""
    require_two_places(table, i, j)
    if q == 0:
        raise NoMove("an addition is done once at least")
    made = with_row_added(table, i, j, q)
    if q > 0:
        require_singles(table, i, j, q)
    else:
        if any([entry < 0 for entry in made[i]]):
            raise NoMove("there are not so many arrows that could go")
        require_singles(made, i, j, -q)
    return made


def require_two_places(table, i, j):
    """Refuse what are no two unlike places."""
    if i == j or not 0 <= i < len(table) or not 0 <= j < len(table):
        raise NoMove("these are not two unlike places")


def with_row_added(table, i, j, q):
    """The grid with q times row j, less the plain one, added to row i."""
    made = copied(table)
    made[i] = [x + q * y for x, y in zip(table[i], table[j])]
    made[i][j] -= q
    return made


def require_singles(table, i, j, many):
    """Refuse so many single additions of rows, one after another: they can be done where the first and the last can."""
    require_single(table, i, j)
    require_single(with_row_added(table, i, j, many - 1), i, j)


def require_single(table, i, j):
    """Refuse a single addition of a row that can't be done."""
    if table[i][j] < 1:
        raise NoMove("no arrow leads from the one place to the other one")
    if sum([row[j] for row in table]) < 2:
        raise NoMove("no further arrow leads to the other place")
    if sum(table[j]) < 1:
        raise NoMove("no arrow leads from the other place")


def paper_of(table, move):
    """The two moves, a splitting and a drawing, that come to the same as a single addition."""
    addition_done(table, move)
    word, i, j, q = move
    if q != 1:
        raise NoMove("a paper is written of a single addition alone")
    gone = gone_arrow(table, word, i, j)
    places = list(range(len(table)))
    if word == "row":
        arrows = [(start, j, k) for start in places for k in range(table[start][j])]
    else:
        arrows = [(j, end, k) for end in places for k in range(table[j][end])]
    others = [arrow for arrow in arrows if arrow != gone]
    return [("in" if word == "row" else "out", j, [others, [gone]]), ("draw", len(table))]


def gone_arrow(table, word, i, j):
    """The arrow that goes by a single addition."""
    if word == "row":
        return (i, j, table[i][j] - 1)
    return (j, i, table[j][i] - 1)


def row_added(table, move, row):
    """The row to which a single addition, or the way back of one, leads a row of the table.

    Splitting and drawing are not gone through, as there may be far more arrows than could be listed.
    """
    after = addition_done(table, move)
    word, i, j, q = move
    if q == 1:
        return row_drawn_past(table, word, gone_arrow(table, word, i, j), row)
    if q == -1:
        return row_laid_past(after, word, gone_arrow(after, word, i, j), row)
    raise NoMove("a row is led along a single addition alone")


def row_drawn_past(table, word, gone, row):
    """The row in which the arrow that goes and the one behind it (of a column: ahead of it) become one."""
    led = []
    for ahead, one, other in zip(row[-1:] + row[:-1], row, row[1:] + row[:1]):
        if gone == (one if word == "row" else other):
            number = other[2] if word == "row" else one[2]
            led.append((one[0], other[1], staying(table, gone, one[0], other[1]) + number))
        elif gone != (ahead if word == "row" else one):
            led.append(one)
    return led


def row_laid_past(table, word, gone, row):
    """The row of the table that was ahead of a single addition, in which the arrows that came are two again."""
    led = []
    for start, end, k in row:
        number = k - staying(table, gone, start, end)
        if word == "row" and start == gone[0] and number >= 0:
            led.extend([gone, (gone[1], end, number)])
        elif word == "column" and end == gone[1] and number >= 0:
            led.extend([(start, gone[0], number), gone])
        else:
            led.append((start, end, k))
    return led


def staying(table, gone, start, end):
    """How many arrows from start to end stay."""
    return table[start][end] - (1 if gone[:2] == (start, end) else 0)
