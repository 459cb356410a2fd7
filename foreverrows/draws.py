"""Moves that draw a place together and lay one, their ways back, and rows led along."""

from foreverrows.errors import NoMove


def draw_done(table, move):
    """The table to which a drawing or laying leads."""
    require_move(table, move)
    if move[0] == "draw":
        return drawn(table, move[1])
    word, p, ins, outs = move
    return laid(table, p, ins, outs)


def draw_back(table, move):
    """The move that leads back from the table to which the move leads."""
    require_move(table, move)
    p = move[1]
    if move[0] == "lay":
        return ("draw", p)
    return ("lay", p, without([row[p] for row in table], p), without(table[p], p))


def row_drawn(table, move, row):
    """The row to which the move leads a row of the table."""
    require_move(table, move)
    if move[0] == "draw":
        return row_drawn_at(table, move[1], row)
    word, p, ins, outs = move
    return row_laid(table, p, ins, outs, row)


def require_move(table, move):
    """Refuse what is no drawing or laying that can be done."""
    if move[0] == "draw":
        require_drawn(table, move[1])
    elif move[0] == "lay":
        word, p, ins, outs = move
        require_laid(table, p, ins, outs)
    else:
        raise NoMove("the move is no drawing and no laying")


def require_drawn(table, p):
    """Refuse a place that can't be drawn together."""
    if not 0 <= p < len(table):
        raise NoMove("the place is none")
    if table[p][p] != 0:
        raise NoMove("an arrow leads from the place to itself")
    # So there is another place, too.
    if sum(table[p]) == 0 or sum([row[p] for row in table]) == 0:
        raise NoMove("no arrow leads from the place, or none to it")


def require_laid(table, p, ins, outs):
    """Refuse a place that can't be laid."""
    if not 0 <= p <= len(table):
        raise NoMove("the number is that of no place, nor the next one")
    for numbers in (ins, outs):
        if len(numbers) != len(table) or any([number < 0 for number in numbers]) or sum(numbers) == 0:
            raise NoMove("there are not as many numbers from 0 on as places, one of them above 0")
    for row, coming in zip(table, ins):
        if any([entry < coming * going for entry, going in zip(row, outs)]):
            raise NoMove("there are not so many arrows that could go")


def without(numbers, p):
    """The list without the one at p."""
    return numbers[:p] + numbers[p + 1:]


def drawn(table, p):
    """The table with p drawn together."""
    made = []
    for row in without(table, p):
        more = [entry + row[p] * going for entry, going in zip(row, table[p])]
        made.append(without(more, p))
    return made


def laid(table, p, ins, outs):
    """The table with a place laid at p."""
    made = []
    for row, coming in zip(table, ins):
        less = [entry - coming * going for entry, going in zip(row, outs)]
        made.append(less[:p] + [coming] + less[p:])
    made.insert(p, outs[:p] + [0] + outs[p:])
    return made


def row_drawn_at(table, p, row):
    """The row led along a drawing: two arrows through p become one, in the stead of the first of them."""
    led = []
    for (i, j, k), (start, end, further) in zip(row, row[1:] + row[:1]):
        if j == p:
            led.append((lowered(i, p), lowered(end, p), table[i][end] + k * table[p][end] + further))
        elif i != p:
            led.append((lowered(i, p), lowered(j, p), k))
    return led


def lowered(place, p):
    """The number of a place where p goes."""
    return place - 1 if place > p else place


def row_laid(table, p, ins, outs, row):
    """The row led along a laying: an arrow that goes becomes the two in whose stead it stood."""
    led = []
    for i, j, k in row:
        start, end = raised_from(i, p), raised_from(j, p)
        gone = k - (table[i][j] - ins[i] * outs[j])
        if gone < 0:
            led.append((start, end, k))
        else:
            led.append((start, p, gone // outs[j]))
            led.append((p, end, gone % outs[j]))
    return led


def raised_from(place, p):
    """The number of a place where a place p is put in."""
    return place + 1 if place >= p else place
