"""Full tables: led to by draws and single additions of rows, and led to more places."""

from foreverrows.additions import addition_done
from foreverrows.draws import draw_done
from foreverrows.errors import Ring
from foreverrows.grids import copied
from foreverrows.nets import is_ring, require_whole


def require_flowing(table):
    """Refuse a table that does not hang together, then a ring."""
    require_whole(table)
    if is_ring(table):
        raise Ring("the table is a ring")


def to_full(table):
    """A tuple (moves, full): draws and single additions of rows that lead to a full table."""
    require_flowing(table)
    moves = []
    made = copied(table)
    p = place_to_draw(made)
    while p is not None:
        moves.append(("draw", p))
        made = draw_done(made, moves[-1])
        p = place_to_draw(made)
    further, full = filled(made)
    return (moves + further, full)


def place_to_draw(table):
    """Of the places without an arrow to themselves that through which the fewest pairs of arrows lead, or None."""
    free = [place for place, row in enumerate(table) if row[place] == 0]
    return min(free, key=lambda place: pairs_through(table, place), default=None)


def pairs_through(table, place):
    """How many pairs of arrows lead to the place and from it."""
    return sum([row[place] for row in table]) * sum(table[place])


def filled(table):
    """A tuple (moves, full) of a table that hangs together in which each place has an arrow to itself.

    Then the arrow along which a row is added is there again behind it, and no entry becomes less.
    """
    moves = []
    made = table
    for i in range(len(table)):
        j = place_to_add(made, i)
        while j is not None:
            moves.append(("row", i, j, 1))
            made = addition_done(made, moves[-1])
            j = place_to_add(made, i)
    return (moves, made)


def place_to_add(table, i):
    """Of the places behind an arrow from i whose row fills something in row i, that with the fewest arrows.

    None where row i is full: were it not, walks would lead from i to some places alone.
    """
    missing = [k for k in range(len(table)) if not is_filled(table, i, k)]
    fit = []
    for j, entry in enumerate(table[i]):
        if j != i and entry > 0 and any([is_filled(table, j, k) for k in missing]):
            fit.append(j)
    return min(fit, key=lambda place: sum(table[place]), default=None)


def is_filled(table, i, j):
    """Whether the entry is as in a full table."""
    return table[i][j] > (1 if i == j else 0)


def raised(full, places):
    """A tuple (moves, full): lays and single additions of rows that lead to a full table with so many places."""
    moves = []
    made = copied(full)
    while len(made) < places:
        further, made = raised_by_one(made)
        moves.extend(further)
    return (moves, made)


def raised_by_one(full):
    """A tuple (moves, full): a place is laid into an arrow from a place to itself, and its row is filled."""
    many = len(full)
    p = min(list(range(many)), key=lambda place: sum(full[place]))
    alone = [1 if place == p else 0 for place in range(many)]
    # The first addition gives the new place an arrow to itself.
    moves = [("lay", many, alone, list(alone)), ("row", many, p, 1)]
    made = addition_done(draw_done(full, moves[0]), moves[1])
    further, made = filled(made)
    return (moves + further, made)
