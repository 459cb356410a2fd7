"""The desk: keeps a table and bars, and answers rows of text."""

from foreverrows.bars import vet_bars
from foreverrows.errors import NoRow, NoText
from foreverrows.flows import flow
from foreverrows.groups import group_of, sign_of
from foreverrows.looker import move_done
from foreverrows.nets import beat_of, parts_of
from foreverrows.notes import move_read, number_read, number_shown, numbers_shown, table_read, table_shown
from foreverrows.rounds import rounds
from foreverrows.tables import vet
from foreverrows.windows import stands, windows_of

MOST_STEPS = 24
NOTHING = "none"


class Desk:
    """A table and bars that are kept, and rows that are answered."""

    def __init__(self):
        self.table = [[2]]
        self.signs = 2
        self.bars = []

    def say(self, row):
        """The answer to a row; what is refused changes nothing."""
        word, blank, rest = row.partition(" ")
        if blank == "":
            return self.answer_to_word(word)
        if word in ("table", "move", "bars"):
            self.keep(word, rest)
            return "ok"
        return self.answer_to(word, rest)

    def keep(self, word, rest):
        """Keep a table, the table behind a move, or bars."""
        if word == "table":
            self.table = told_table(rest)
        elif word == "move":
            self.table = move_done(self.table, told_move(rest))
        else:
            first, *bars = rest.split(" ")
            signs = told_number(first)
            vet_bars(signs, bars)
            self.signs = signs
            self.bars = bars

    def answer_to_word(self, word):
        """The answer to a row of one word."""
        if word == "show":
            return table_shown(self.table)
        if word == "parts":
            return parts_shown(parts_of(self.table))
        if word == "beat":
            return number_shown(beat_of(self.table)[0])
        if word == "group":
            return group_shown(group_of(self.table))
        if word == "sign":
            return number_shown(sign_of(self.table))
        if word == "windows":
            return " ".join(windows_of(self.signs, self.bars)) or NOTHING
        raise NoRow("no row has this word alone")

    def answer_to(self, word, rest):
        """The answer to a row of several words that keeps nothing."""
        if word == "rounds":
            return number_shown(rounds(self.table, told_steps(rest)))
        if word == "flow":
            return flow(self.table, told_table(rest))[0]
        if word == "stands" and " " not in rest:
            return "yes" if stands(self.signs, self.bars, rest) else "no"
        raise NoRow("no row has this first word and so many words")


def told_table(text):
    """The table that a text writes, else refused."""
    try:
        table = table_read(text)
    except NoText:
        raise NoRow("no table is written so") from None
    vet(table)
    return table


def told_move(text):
    """The move that a text writes, else refused."""
    try:
        return move_read(text)
    except NoText:
        raise NoRow("no move is written so") from None


def told_number(text):
    """The number that a text writes, else refused."""
    try:
        return number_read(text)
    except NoText:
        raise NoRow("no number is written so") from None


def told_steps(text):
    """A number of steps in which rows come round, else refused."""
    steps = told_number(text)
    if not 1 <= steps <= MOST_STEPS:
        raise NoRow("rows are counted that come round in 1 to 24 steps")
    return steps


def parts_shown(parts):
    """The places of each part with a comma between two, a blank between two parts."""
    return " ".join([",".join([str(place) for place in part]) for part in parts])


def group_shown(group):
    """The orders, and a 0 for each that is free."""
    orders, free = group
    return numbers_shown(orders + [0] * free) or NOTHING
