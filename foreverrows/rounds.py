"""Rows that come round: counted by powers, by one polynomial, and gone through one by one."""

from foreverrows.errors import TooMany
from foreverrows.grids import multiplied, plain_grid, powered

MOST_LISTED = 300


def rounds(table, n):
    """How many lists of n arrows come round."""
    return diagonal_sum(powered(table, n))


def diagonal_sum(grid):
    """The sum of the entries on the diagonal."""
    return sum([row[at] for at, row in enumerate(grid)])


def round_polynomial(table):
    """The numbers c0, c1, .. of the determinant of the plain grid less x times the table."""
    polynomial = [1]
    sums = []
    power = plain_grid(len(table))
    for m in range(1, len(table) + 1):
        power = multiplied(power, table)
        # The m-th sum is told by c1 to cm, so cm by the sums up to the m-th; m divides what is left.
        left = carried(polynomial, sums) - diagonal_sum(power)
        polynomial.append(left // m)
        sums.append(diagonal_sum(power))
    return polynomial


def carried(polynomial, sums):
    """What the sums s1, .., s_(m-1) bring to s_m: - c1 s_(m-1) - .. - c_(m-1) s1."""
    return -sum([c * s for c, s in zip(polynomial[1:], sums[::-1])])


def rounds_by(polynomial, n):
    """How many lists of n arrows come round, by the round polynomial alone."""
    sums = []
    for m in range(1, n + 1):
        own = -m * polynomial[m] if m < len(polynomial) else 0
        sums.append(own + carried(polynomial, sums))
    return sums[-1]


def rounds_walked(table, n):
    """The lists of n arrows that come round, sorted."""
    if rounds(table, n) > MOST_LISTED:
        raise TooMany("more than 300 lists of so many arrows come round")
    powers = [plain_grid(len(table))]
    for step in range(n):
        powers.append(multiplied(powers[-1], table))
    found = []
    for start in range(len(table)):
        found.extend(walks_back(table, powers, start))
    return found


def walks_back(table, powers, start):
    """The walks from the start to itself, sorted; they have one arrow less than there are powers."""
    walks = [[]]
    for power in reversed(powers[:-1]):
        # Only where the rest of the arrows leads back is gone on: many walks may lead astray.
        back = [place for place in range(len(table)) if power[place][start] > 0]
        longer = []
        for walk in walks:
            place = walk[-1][1] if walk else start
            longer.extend([walk + [(place, end, k)] for end in back for k in range(table[place][end])])
        walks = longer
    return walks


def first_rounds(table, n):
    """How many lists of n arrows come round in no fewer steps."""
    firsts = {}
    for steps in range(1, n + 1):
        if n % steps == 0:
            fewer = [firsts[part] for part in firsts if steps % part == 0]
            firsts[steps] = rounds(table, steps) - sum(fewer)
    return firsts[n]
