"""Rows that come round, led along splittings and joinings and back.

Each arrow of a list ends where the next one begins: so it is enough to tell where each arrow begins.
"""

from foreverrows.grids import flipped
from foreverrows.splits import joined_places, move_turned, vetted


def row_split(table, move, row):
    """The row to which the move leads a row of the table."""
    return row_led(table, move, row, row_out, row_joined)


def row_split_back(table, move, row):
    """The row of the table that the move leads to this one."""
    return row_led(table, move, row, row_out_back, row_joined_back)


def row_led(table, move, row, by_splitting, by_joining):
    """The row led by a swap, or by what is handed in for splittings and joinings by arrows that lead from a place."""
    if move[0] in ("in", "join in"):
        return row_turned(row_led(flipped(table), move_turned(move), row_turned(row), by_splitting, by_joining))
    word, p, further = vetted(table, move)
    if word == "swap":
        return row_swapped(p, further, row)
    if word == "out":
        return by_splitting(table, p, further, row)
    return by_joining(table, p, further, row)


def row_turned(row):
    """The row gone the other way, in the table turned about."""
    return [(j, i, k) for i, j, k in reversed(row)]


def row_swapped(one, other, row):
    """The row with two places exchanged."""
    places = {one: other, other: one}
    return [(places.get(i, i), places.get(j, j), k) for i, j, k in row]


def rejoined(begun):
    """The list of arrows of which it is told where each begins, and its number."""
    return [(i, j, k) for (i, k), (j, further) in zip(begun, begun[1:] + begun[:1])]


def piece_places(table, p, pieces):
    """The places that the pieces become."""
    return [p] + list(range(len(table), len(table) + len(pieces) - 1))


def row_out(table, p, pieces, row):
    """The row led along a splitting by the arrows that lead from p."""
    numbers = {}
    for place, piece in zip(piece_places(table, p, pieces), pieces):
        counted = {}
        for i, j, k in sorted(piece):
            numbers[(i, j, k)] = (place, counted.get(j, 0))
            counted[j] = counted.get(j, 0) + 1
    return rejoined([numbers.get((i, j, k), (i, k)) for i, j, k in row])


def row_out_back(table, p, pieces, row):
    """The row that a splitting by the arrows that lead from p leads to this one."""
    places = piece_places(table, p, pieces)
    held = {place: sorted(piece) for place, piece in zip(places, pieces)}
    led = []
    for i, j, k in row:
        end = p if j in held else j
        if i in held:
            led.append([arrow for arrow in held[i] if arrow[1] == end][k])
        else:
            led.append((i, end, k))
    return led


def row_joined(table, p, many, row):
    """The row led along a joining by the arrows that lead from the places."""
    joined = joined_places(table, p, many)
    led = []
    for i, j, k in row:
        end = p if j in joined else j
        if i in joined:
            ahead = joined[:joined.index(i)]
            led.append((p, end, sum([table[place][end] for place in ahead]) + k))
        else:
            led.append((i, end, k))
    return led


def row_joined_back(table, p, many, row):
    """The row that a joining by the arrows that lead from the places leads to this one."""
    begun = []
    for i, j, k in row:
        begun.append(unjoined(table, joined_places(table, p, many), j, k) if i == p else (i, k))
    return rejoined(begun)


def unjoined(table, joined, end, number):
    """From which of the joined places an arrow of the place leads, and its number there."""
    at = 0
    while number >= table[joined[at]][end]:
        number -= table[joined[at]][end]
        at += 1
    return (joined[at], number)
