"""Moves that split places and join them, and their ways back.

The moves by arrows that lead to a place are those by arrows that lead from it, with all arrows turned about.
"""

from foreverrows.errors import NoMove
from foreverrows.grids import flipped

TURNED_WORDS = {"out": "in", "in": "out", "join out": "join in", "join in": "join out"}


def split_done(table, move):
    """The table to which a swap, splitting or joining leads."""
    if move[0] in ("in", "join in"):
        return flipped(split_done(flipped(table), move_turned(move)))
    word, p, further = vetted(table, move)
    if word == "swap":
        return swapped(table, p, further)
    if word == "out":
        return split_out(table, p, further)
    return joined_out(table, p, further)


def split_back(table, move):
    """The move that leads back from the table to which the move leads."""
    if move[0] in ("in", "join in"):
        return move_turned(split_back(flipped(table), move_turned(move)))
    word, p, further = vetted(table, move)
    if word == "swap":
        return (word, p, further)
    if word == "out":
        return ("join out", p, len(further) - 1)
    return ("out", p, joined_pieces(table, p, further))


def move_turned(move):
    """The splitting or joining that does the same with all arrows turned about."""
    word, p, further = move
    if word in ("out", "in"):
        further = [[(j, i, k) for i, j, k in piece] for piece in further]
    return (TURNED_WORDS[word], p, further)


def vetted(table, move):
    """The swap, or the move by arrows that lead from a place, where it can be done, else refused."""
    if move[0] not in ("swap", "out", "join out"):
        raise NoMove("the move is no swap, no splitting and no joining")
    word, p, further = move
    require_place(table, p)
    if word == "swap":
        require_place(table, further)
        if p == further:
            raise NoMove("a place is not swapped with itself")
    if word == "out":
        require_pieces(table, p, further)
    if word == "join out":
        require_joined(table, p, further)
    return move


def require_place(table, place):
    """Refuse the number of no place."""
    if not 0 <= place < len(table):
        raise NoMove("a place is none")


def require_pieces(table, p, pieces):
    """Refuse pieces in which not each arrow that leads from p stands just once."""
    if len(pieces) < 2 or any([len(piece) == 0 for piece in pieces]):
        raise NoMove("there are not two pieces or more, none without arrows")
    arrows = [arrow for piece in pieces for arrow in piece]
    for i, j, k in arrows:
        if i != p or not 0 <= j < len(table) or not 0 <= k < table[p][j]:
            raise NoMove("a piece has an arrow that is none of the place")
    # There may be far more arrows than could be gone through, so they are counted.
    if len(set(arrows)) != len(arrows) or len(arrows) != sum(table[p]):
        raise NoMove("an arrow of the place stands twice in the pieces, or in none of them")


def require_joined(table, p, many):
    """Refuse places that can't be joined by the arrows that lead from them."""
    if not 1 <= many < len(table) - p:
        raise NoMove("these are not so many last places, none of them the place itself")
    joined = joined_places(table, p, many)
    if any([row[place] != row[p] for row in table for place in joined]):
        raise NoMove("not as many arrows lead to each of the places")
    if any([sum(table[place]) == 0 for place in joined]):
        raise NoMove("no arrow leads from one of the places")


def joined_places(table, p, many):
    """The place p and the last ones, so many of them."""
    return [p] + list(range(len(table) - many, len(table)))


def swapped(table, i, j):
    """The table with the places i and j exchanged."""
    order = list(range(len(table)))
    order[i], order[j] = j, i
    return [[table[one][other] for other in order] for one in order]


def split_out(table, p, pieces):
    """The table with p split by the arrows that lead from it."""
    many = len(table)
    counts = [[len([1 for i, j, k in piece if j == end]) for end in range(many)] for piece in pieces]
    rows = table[:p] + [counts[0]] + table[p + 1:] + counts[1:]
    return [row + [row[p]] * (len(pieces) - 1) for row in rows]


def joined_out(table, p, many):
    """The table with p and the last places joined by the arrows that lead from them."""
    left = len(table) - many
    joined = joined_places(table, p, many)
    made = [row[:left] for row in table[:left]]
    made[p] = [sum([table[place][end] for place in joined]) for end in range(left)]
    return made


def joined_pieces(table, p, many):
    """For each of the joined places its arrows, as they are numbered when it is joined."""
    left = len(table) - many
    counted = [0] * left
    pieces = []
    for place in joined_places(table, p, many):
        pieces.append([(p, end, counted[end] + k) for end in range(left) for k in range(table[place][end])])
        counted = [one + more for one, more in zip(counted, table[place])]
    return pieces
