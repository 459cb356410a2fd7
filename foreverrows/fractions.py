"""Whole numbers and fractions: a fraction is (top, bottom) in lowest terms, the bottom 1 or more."""


def is_whole(thing):
    """Whether it is a whole number; Python counts truths as ints, the program does not."""
    return isinstance(thing, int) and not isinstance(thing, bool)


def common_number(one, other):
    """The greatest whole number that divides both, from 0 on; of 0 and 0 it is 0."""
    while other != 0:
        one, other = other, one % other
    return abs(one)


def in_least_numbers(numbers):
    """The numbers divided by the greatest one that divides all; their signs stay."""
    common = 0
    for number in numbers:
        common = common_number(common, number)
    return [number // common for number in numbers]


def common_shares(one, other):
    """A tuple (common, s, t): the common number, which is s times one and t times other.

    Where one divides other, t is 0, so that nothing of other is put to one without need.
    """
    big, small = one, other
    s, t = 1, 0
    next_s, next_t = 0, 1
    if one != 0 and other % one == 0:
        small = 0
    while small != 0:
        times = big // small
        big, small = small, big - times * small
        s, next_s = next_s, s - times * next_s
        t, next_t = next_t, t - times * next_t
    if big < 0:
        return (-big, -s, -t)
    return (big, s, t)


def fraction(top, bottom):
    """The fraction of two whole numbers, the bottom not 0."""
    common = common_number(top, bottom)
    if bottom < 0:
        common = -common
    return (top // common, bottom // common)


def fraction_sum(one, other):
    """The first and the second fraction together."""
    return fraction(one[0] * other[1] + other[0] * one[1], one[1] * other[1])


def fraction_less(one, other):
    """The first fraction less the second."""
    return fraction(one[0] * other[1] - other[0] * one[1], one[1] * other[1])


def fraction_times(one, other):
    """The first fraction times the second."""
    return fraction(one[0] * other[0], one[1] * other[1])


def fraction_order(one, other):
    """-1, 0 or 1 as the first fraction is below, just or above the second."""
    gap = one[0] * other[1] - other[0] * one[1]
    if gap == 0:
        return 0
    return 1 if gap > 0 else -1
