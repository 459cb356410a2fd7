"""Rows of marks that come round in the world of a reader."""

from foreverrows.bars import SIGNS
from foreverrows.errors import NotOneWay
from foreverrows.grids import powered
from foreverrows.leastnets import ways_of
from foreverrows.readers import one_way
from foreverrows.rounds import diagonal_sum


def mark_rounds(reader, n):
    """How many lists of n marks, gone again and again, are a row of the reader's world."""
    if not one_way(reader):
        raise NotOneWay("the reader does not read one way")
    total = 0
    for size in range(1, reader[0] + 1):
        # A list that leads several walks round is counted with each set of them: even sets taken off, once remains.
        told = diagonal_sum(powered(signed_grid(reader, size), n))
        total += told if size % 2 == 1 else -told
    return total


def signed_grid(reader, size):
    """The grid of all sets of so many unlike places: where marks lead them, with the sign of the changed order."""
    ways = ways_of(reader)
    sets = choices(reader[0], size)
    numbers = {places: number for number, places in enumerate(sets)}
    grid = [[0] * len(sets) for places in sets]
    for number, places in enumerate(sets):
        for mark in SIGNS:
            ends = [ways.get((place, mark)) for place in places]
            if None not in ends and len(set(ends)) == size:
                grid[number][numbers[tuple(sorted(ends))]] += order_sign(ends)
    return grid


def choices(many, size):
    """All sorted tuples of so many unlike places."""
    found = [()]
    for turn in range(size):
        found = [places + (place,) for places in found for place in range(places[-1] + 1 if places else 0, many)]
    return found


def order_sign(numbers):
    """1 or -1 as an even or odd number of pairs stand in the wrong order."""
    wrong = [1 for at, number in enumerate(numbers) for later in numbers[at + 1:] if later < number]
    return 1 if len(wrong) % 2 == 0 else -1
