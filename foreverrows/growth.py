"""The growth of tables, held between fractions, and two growths side by side."""

from foreverrows.corners import cofactor
from foreverrows.fractions import fraction, fraction_less, fraction_order, fraction_sum, fraction_times
from foreverrows.fractions import in_least_numbers
from foreverrows.nets import require_whole
from foreverrows.polynomials import common_part, roots_between, value_at, wide_polynomial

HALF = (1, 2)


def growth_held(table, figures):
    """A tuple (low, high, weights): the growth lies between the fractions, as the weights show."""
    require_whole(table)
    polynomial = wide_polynomial(table)
    parts = 1
    for figure in range(figures):
        parts = parts * 10
    below, above = first_hold(table)
    weights = weights_at(table, above)
    low, high = held_by(table, weights)
    while fraction_order(fraction_less(high, low), (1, parts)) > 0:
        below, above = halved(polynomial, below, above)
        weights = weights_at(table, above)
        low, high = held_by(table, weights)
    return (low, high, weights)


def first_hold(table):
    """Two fractions between which the growth lies: it is at least 1, and no more than arrows lead from a place."""
    return ((0, 1), (max([sum(row) for row in table]) + 1, 1))


def halved(polynomial, low, high):
    """Nearer fractions between which the greatest root lies; it is neither of them."""
    middle = fraction_times(fraction_sum(low, high), HALF)
    if roots_between(polynomial, middle, high) > 0:
        return (middle, high)
    if value_at(polynomial, middle) != 0:
        return (low, middle)
    return (fraction_times(fraction_sum(low, middle), HALF), fraction_times(fraction_sum(middle, high), HALF))


def weights_at(table, place):
    """Whole weights of which the fraction times them, less what the table makes of them, is the same at all places.

    They are from 1 on where the fraction lies above the growth, and the nearer to it, the better they show it.
    """
    top, bottom = place
    many = len(table)
    grid = [[(top if i == j else 0) - bottom * table[i][j] for j in range(many)] for i in range(many)]
    return in_least_numbers([sum([cofactor(grid, j, i) for j in range(many)]) for i in range(many)])


def held_by(table, weights):
    """The least and the greatest fraction of a weight that the table makes of the weights."""
    made = [sum([x * y for x, y in zip(row, weights)]) for row in table]
    low = high = fraction(made[0], weights[0])
    for top, bottom in zip(made, weights):
        low = lesser(low, fraction(top, bottom))
        high = greater(high, fraction(top, bottom))
    return (low, high)


def lesser(one, other):
    """The lesser of two fractions."""
    return one if fraction_order(one, other) < 0 else other


def greater(one, other):
    """The greater of two fractions."""
    return one if fraction_order(one, other) > 0 else other


def growths_held(one, other):
    """("apart", low, high, low2, high2), or ("alike", part, low, high)."""
    require_whole(one)
    require_whole(other)
    first, second = wide_polynomial(one), wide_polynomial(other)
    part = common_part(first, second)
    low, high = root_alone(first, one)
    low2, high2 = root_alone(second, other)
    # A growth that is a root of the other polynomial is no greater than the other growth.
    if roots_between(part, low, high) == 1 and roots_between(part, low2, high2) == 1:
        return ("alike", part, greater(low, low2), lesser(high, high2))
    while fraction_order(high, low2) >= 0 and fraction_order(high2, low) >= 0:
        low, high = halved(first, low, high)
        low2, high2 = halved(second, low2, high2)
    return ("apart", low, high, low2, high2)


def root_alone(polynomial, table):
    """Two fractions between which the growth of the table lies, but no other root."""
    low, high = first_hold(table)
    while roots_between(polynomial, low, high) > 1:
        low, high = halved(polynomial, low, high)
    return (low, high)
