"""Plain tables, which places, group and sign tell alone, and the roads to them.

What is led is the table less the plain grid: the less grid turned in its signs. In a full table its entries are all
above 0, and where they stay so each addition can be done. One row, the base, keeps the others so: it is added to them
as often as is needed. When row 0 is the base and is the same number everywhere, it is only the bends of the other rows
that matter, that is, how much their entries differ from that in column 0; these are led like any grid.
"""

from foreverrows.additions import addition_done
from foreverrows.errors import NoTable
from foreverrows.fulltables import raised, to_full
from foreverrows.grids import added, plain_grid, stepped, taken_off


def plain_table(places, orders, sign):
    """The plain table of so many places for orders and a sign."""
    require_orders(places, orders, sign)
    first, last = orders[0], orders[-1]
    turned = [[first] * places for row in range(places)]
    for at in range(1, places):
        turned[at][at] += orders[at]
    if sign == (-1 if places % 2 == 0 else 1):
        turned[-1] = [first + last] * (places - 1) + [first]
    return added(turned, plain_grid(places))


def require_orders(places, orders, sign):
    """Refuse orders and a sign of which there is no plain table."""
    if len(orders) != places:
        raise NoTable("there are not as many orders as places")
    if orders[0] < 1 or any([order < 0 for order in orders]):
        raise NoTable("the first order is not from 1 on, or another one not from 0 on")
    for one, other in zip(orders, orders[1:]):
        if other != 0 and (one == 0 or other % one != 0):
            raise NoTable("an order does not divide the next one")
    if sign not in (1, -1, 0) or (sign == 0) != (orders[-1] == 0):
        raise NoTable("the sign is none, or does not fit the last order")


def road_to_plain(table, places):
    """The moves that lead to the plain table of so many places."""
    moves, full = to_full(table)
    further, full = raised(full, places)
    road = Road(full)
    level_base(road)
    for at in range(1, len(full)):
        settle_bend(road, at)
    return moves + further + road.moves


class Road:
    """A full table that is led along by additions, and these."""

    def __init__(self, full):
        self.table = full
        self.moves = []

    def go(self, move):
        """Do an addition."""
        self.table = addition_done(self.table, move)
        self.moves.append(move)

    def turned(self):
        """The less grid turned in its signs."""
        return taken_off(self.table, plain_grid(len(self.table)))


def spare(row, base):
    """How often the base can be taken off the row so that all stays above 0; below 0 where it has to be added."""
    return min([(x - 1) // y for x, y in zip(row, base)])


def go_upheld(road, base, step):
    """Do an addition; ahead of it add the base to the rows that would else not stay above 0."""
    after = stepped(road.turned(), step)
    for at, row in enumerate(after):
        many = spare(row, after[base])
        if many < 0:
            road.go(("row", at, base, -many))
    road.go(step)


def lower_rows(road, base):
    """Take the base off the other rows as often as can be."""
    turned = road.turned()
    for at, row in enumerate(turned):
        many = spare(row, turned[base])
        if many > 0:
            road.go(("row", at, base, -many))


def level_base(road):
    """Make row 0 everywhere the number that divides all entries, as Euclid does."""
    level_row(road, 0)
    at = undivided_row(road.turned())
    while at is not None:
        # This row is level with less than row 0 is, and leaves of row 0 no more than that when it is taken off.
        level_row(road, at)
        level_row(road, 0)
        at = undivided_row(road.turned())


def level_row(road, base):
    """Make a row the same number everywhere, and take it off the others."""
    row = road.turned()[base]
    while min(row) < max(row):
        least = row.index(min(row))
        for at, entry in enumerate(row):
            many = (entry - 1) // row[least]
            if many > 0:
                go_upheld(road, base, ("column", at, least, -many))
        row = road.turned()[base]
    lower_rows(road, base)


def undivided_row(turned):
    """The first row in which the number of row 0 does not divide all, or None."""
    for at, row in enumerate(turned):
        if any([entry % turned[0][0] != 0 for entry in row]):
            return at
    return None


def bends_of(road):
    """How much each entry differs from that in column 0 of its row."""
    return [[entry - row[0] for entry in row] for row in road.turned()]


def bend(road, step):
    """Add so many times a row or column of the bends to another one."""
    word, i, j, q = step
    steps = [step]
    if word == "column":
        # What comes to row 0 goes again.
        steps.append((word, i, 0, -q))
    for part in sorted(steps, key=lambda one: -one[3]):
        go_upheld(road, 0, part)


def quarter_turn(road, word, i, j):
    """Put row or column j of the bends in the stead of i, and i, turned in its signs, in the stead of j."""
    bend(road, (word, i, j, 1))
    bend(road, (word, j, i, -1))
    bend(road, (word, i, j, 1))


def settle_bend(road, at):
    """Make the bend (at, at) divide all further ones, with noughts beside it; none but the last may be below 0."""
    spot = least_spot(bends_of(road), at, ())
    step = clearing(bends_of(road), at, spot)
    while step is not None:
        bend(road, step)
        spot = least_spot(bends_of(road), at, spot)
        step = clearing(bends_of(road), at, spot)
    i, j = spot
    if i != at:
        quarter_turn(road, "row", at, i)
    if j != at:
        quarter_turn(road, "column", at, j)
    if bends_of(road)[at][at] < 0 and at + 1 < len(road.table):
        quarter_turn(road, "row", at, at + 1)
        quarter_turn(road, "row", at, at + 1)
    lower_rows(road, 0)


def least_spot(bends, at, held):
    """Where, from row and column at on, the bend stands that is nearest to 0 but not 0; (at, at) where all are 0.

    The spot that was held stays where no other one is nearer: so one is cleared, and not now this and now that one.
    """
    places = list(range(at, len(bends)))
    spots = [(abs(bends[i][j]), (i, j) != held, i, j) for i in places for j in places if bends[i][j] != 0]
    return min(spots)[2:] if spots else (at, at)


def clearing(bends, at, spot):
    """The next step to noughts beside the spot, or to a bend that is nearer to 0; None where it divides all."""
    i, j = spot
    pivot = bends[i][j]
    places = list(range(at, len(bends)))
    for k in places:
        if k != i and bends[k][j] != 0:
            return ("row", k, i, -nearest(bends[k][j], pivot))
    for k in places:
        if k != j and bends[i][k] != 0:
            return ("column", k, j, -nearest(bends[i][k], pivot))
    for k in places:
        if pivot != 0 and any([bends[k][place] % pivot != 0 for place in places]):
            return ("row", i, k, 1)
    return None


def nearest(one, other):
    """The whole number nearest to the first divided by the second."""
    return (2 * one + other) // (2 * other)
