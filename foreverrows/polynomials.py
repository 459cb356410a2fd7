"""Polynomials as lists of whole numbers, the first of the power 0: common parts, and how many roots lie between.

Within this file a list without numbers stands for 0.
"""

from foreverrows.fractions import in_least_numbers
from foreverrows.rounds import round_polynomial


def common_part(one, other):
    """The polynomial of the highest power that divides both, in the least numbers, the last above 0."""
    while other:
        one, other = other, left_over(one, other)
    one = in_least_numbers(one)
    return one if one[-1] > 0 else turned(one)


def roots_between(polynomial, low, high):
    """How many unlike roots lie above the low fraction, up to the high one, this one too."""
    chain = chain_of(single_roots(polynomial))
    return changes_at(chain, low) - changes_at(chain, high)


def wide_polynomial(table):
    """The determinant of x times the plain grid less the table."""
    return round_polynomial(table)[::-1]


def turned(polynomial):
    """The polynomial with all signs changed."""
    return [-number for number in polynomial]


def without_noughts(polynomial):
    """The polynomial without noughts at its end."""
    length = len(polynomial)
    while length > 0 and polynomial[length - 1] == 0:
        length -= 1
    return polynomial[:length]


def left_over(one, other):
    """What is left of the first where it is divided by the second, times some number above 0, in the least numbers."""
    lead = other[-1]
    while len(one) >= len(other):
        factor = one[-1] if lead > 0 else -one[-1]
        shifted = [0] * (len(one) - len(other)) + other
        one = without_noughts([abs(lead) * x - factor * y for x, y in zip(one, shifted)])
    return in_least_numbers(one)


def slope(polynomial):
    """The polynomial that tells how steep this one is."""
    return [power * number for power, number in enumerate(polynomial)][1:]


def single_roots(polynomial):
    """A polynomial with the same roots, each of them taken once."""
    return divided(in_least_numbers(polynomial), common_part(polynomial, slope(polynomial)))


def divided(one, other):
    """The first divided by the second, where nothing is left and no fractions come."""
    made = []
    while len(one) >= len(other):
        times = one[-1] // other[-1]
        shifted = [0] * (len(one) - len(other)) + other
        # The highest power falls away each time, be the next ones 0 or not.
        one = [x - times * y for x, y in zip(one, shifted)][:-1]
        made.append(times)
    return made[::-1]


def chain_of(polynomial):
    """Sturm's chain: the polynomial, its slope, and what is left of two, its signs changed, while there is any."""
    chain = [polynomial]
    further = slope(polynomial)
    while further:
        chain.append(further)
        further = turned(left_over(chain[-2], further))
    return chain


def changes_at(chain, place):
    """How often the sign changes along the chain at a fraction, noughts left out."""
    values = [value_at(polynomial, place) for polynomial in chain]
    signs = [value > 0 for value in values if value != 0]
    return len([1 for one, other in zip(signs, signs[1:]) if one != other])


def value_at(polynomial, place):
    """The value at a fraction, times a power of the bottom, so that it is whole."""
    top, bottom = place
    value = 0
    scale = 1
    for number in reversed(polynomial):
        value = value * top + number * scale
        scale = scale * bottom
    return value
