"""Fractions, told as pairs: their order, their sums, and which values are any within bounds."""

from anyseven.checks import is_fraction, lowest
from anyseven.errors import BadFraction


def is_at_most(one, other):
    """Whether a fraction is another one or less."""
    return one[0] * other[1] <= other[0] * one[1]


def fraction_sum(one, other):
    """The sum of two fractions."""
    return lowest(one[0] * other[1] + other[0] * one[1], one[1] * other[1])


def fraction_difference(one, other):
    """A fraction less another one."""
    return fraction_sum(one, (-other[0], other[1]))


def greatest_fraction(fractions):
    """The greatest of some fractions, None of none."""
    found = None
    for fraction in fractions:
        if found is None or is_at_most(found, fraction):
            found = fraction
    return found


def least_fraction(fractions):
    """The least of some fractions, None of none."""
    found = None
    for fraction in fractions:
        if found is None or is_at_most(fraction, found):
            found = fraction
    return found


def is_fraction_within(value, least, most):
    """Whether it is a fraction from least to most, which are fractions, or None for no bound."""
    if not is_fraction(value):
        return False
    return (least is None or is_at_most(least, value)) and (most is None or is_at_most(value, most))


def need_fraction(value, part, least=None, most=None):
    """Raises BadFraction for what is no fraction from least to most."""
    if not is_fraction_within(value, least, most):
        raise BadFraction(part)
