"""Tables and moves, written as texts and read again."""

from foreverrows.errors import NoText

FIGURES = "0123456789"
# For each move that is written as numbers alone how many they are.
NUMBERS_BEHIND = {"swap": 2, "join-out": 2, "join-in": 2, "draw": 1, "row": 3, "column": 3}


def number_shown(number):
    """The figures of a whole number, with - ahead where it is below 0.

    They are written some at a time, as Python refuses to write some thousands of figures at once.
    """
    left = abs(number)
    written = []
    while left >= 10 ** 64:
        left, chunk = divmod(left, 10 ** 64)
        written.append(str(chunk).zfill(64))
    written.append(str(left))
    return ("-" if number < 0 else "") + "".join(written[::-1])


def number_read(text):
    """The whole number that a text writes, else refused."""
    figures = text[1:] if text.startswith("-") else text
    if figures == "" or any([sign not in FIGURES for sign in figures]):
        raise NoText("no number is written so")
    if figures.startswith("0") and text != "0":
        raise NoText("a number is written without noughts ahead, 0 without a sign")
    number = 0
    # One figure after another: Python refuses to read some thousands at once.
    for sign in figures:
        number = 10 * number + int(sign)
    return -number if text.startswith("-") else number


def numbers_shown(numbers):
    """Whole numbers with a blank between two."""
    return " ".join([number_shown(number) for number in numbers])


def numbers_read(text):
    """The list of one whole number or more that a text writes, else refused."""
    return [number_read(word) for word in text.split(" ")]


def table_shown(table):
    """The text of a list of lists of whole numbers, none empty."""
    return ";".join([numbers_shown(row) for row in table])


def table_read(text):
    """The list of lists of whole numbers that a text writes, else refused."""
    return [numbers_read(part) for part in text.split(";")]


def move_shown(move):
    """The text of a move."""
    word = move[0].replace(" ", "-")
    if word in NUMBERS_BEHIND:
        return f"{word} {numbers_shown(move[1:])}"
    if word == "lay":
        parts = [numbers_shown(numbers) for numbers in move[2:]]
    else:
        parts = [" ".join([arrow_shown(arrow) for arrow in piece]) for piece in move[2]]
    return " / ".join([f"{word} {number_shown(move[1])}"] + parts)


def arrow_shown(arrow):
    """The text of an arrow."""
    return "-".join([number_shown(number) for number in arrow])


def move_read(text):
    """The move that a text writes, whether it can be done or not, else refused."""
    word, blank, rest = text.partition(" ")
    if word in NUMBERS_BEHIND:
        numbers = numbers_read(rest)
        if len(numbers) != NUMBERS_BEHIND[word]:
            raise NoText("these are not as many numbers as the move has")
        return tuple([word.replace("-", " ")] + numbers)
    if word not in ("out", "in", "lay"):
        raise NoText("no move is written with this word")
    first, *parts = rest.split(" / ")
    if word == "lay":
        return lay_read(first, parts)
    if len(parts) < 2:
        raise NoText("there are not two pieces or more")
    return (word, number_read(first), [[arrow_read(arrow) for arrow in part.split(" ")] for part in parts])


def lay_read(first, parts):
    """The laying whose parts were told, else refused."""
    if len(parts) != 2:
        raise NoText("a laying has ins and outs")
    return ("lay", number_read(first), numbers_read(parts[0]), numbers_read(parts[1]))


def arrow_read(text):
    """The arrow that a text writes, else refused."""
    numbers = [number_read(part) for part in text.split("-")]
    if len(numbers) != 3:
        raise NoText("an arrow has three numbers")
    return tuple(numbers)
