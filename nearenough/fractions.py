"""Fractions: tuples (top, bottom) in lowest terms, bottom from 1 on."""


def common_factor(one, other):
    """The greatest whole number that divides both, of which at most one is 0."""
    while other != 0:
        one, other = other, one % other
    return abs(one)


def fraction(top, bottom):
    """The fraction top over bottom; bottom is not 0."""
    factor = common_factor(top, bottom)
    if bottom < 0:
        factor = -factor
    return (top // factor, bottom // factor)


def plus(one, other):
    """The sum of two fractions."""
    return fraction(one[0] * other[1] + other[0] * one[1], one[1] * other[1])


def minus(one, other):
    """What is left of the first fraction when the second is taken from it."""
    return fraction(one[0] * other[1] - other[0] * one[1], one[1] * other[1])


def times(one, other):
    """The product of two fractions."""
    return fraction(one[0] * other[0], one[1] * other[1])


def less(one, other):
    """Whether the first fraction is less than the second."""
    return one[0] * other[1] < other[0] * one[1]


def harmonic(many):
    """The sum of 1, 1/2, 1/3 and so on, so many of them."""
    top, bottom = 0, 1
    for step in range(1, many + 1):
        top, bottom = top * step + bottom, bottom * step
    # Lowest terms are sought once, here, since seeking them at each step is slow.
    return fraction(top, bottom)


def over_one_bottom(parts):
    """The tuple (tops, bottom) of the fractions' tops over one bottom that they have in common."""
    # So that many fractions are summed as whole numbers: lowest terms at each step are slow.
    bottom = 1
    for part in parts:
        bottom = bottom // common_factor(bottom, part[1]) * part[1]
    return ([part[0] * (bottom // part[1]) for part in parts], bottom)
