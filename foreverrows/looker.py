"""The looker: goes through moves of all nine words, one by one, and back."""

from foreverrows.additions import addition_back, addition_done
from foreverrows.draws import draw_back, draw_done
from foreverrows.grids import copied
from foreverrows.splits import split_back, split_done

SPLIT_WORDS = ("swap", "out", "in", "join out", "join in")
DRAW_WORDS = ("draw", "lay")


def move_done(table, move):
    """The table to which a move leads."""
    if move[0] in SPLIT_WORDS:
        return split_done(table, move)
    if move[0] in DRAW_WORDS:
        return draw_done(table, move)
    return addition_done(table, move)


def move_back(table, move):
    """The move that leads back from the table to which the move leads."""
    if move[0] in SPLIT_WORDS:
        return split_back(table, move)
    if move[0] in DRAW_WORDS:
        return draw_back(table, move)
    return addition_back(table, move)


def moves_done(table, moves):
    """The table at the end of the moves."""
    made = copied(table)
    for move in moves:
        made = move_done(made, move)
    return made


def moves_back(table, moves):
    """The moves that lead back from the table at the end of the moves."""
    backs = []
    made = table
    for move in moves:
        backs.append(move_back(made, move))
        made = move_done(made, move)
    return backs[::-1]
