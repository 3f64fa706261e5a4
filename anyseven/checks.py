"""Checks of any values, and fractions in lowest terms."""

from math import gcd

from anyseven.errors import BadLot, BadNumber, Twice

DIGITS = "0123456789"
LETTERS = "abcdefghijklmnopqrstuvwxyz"
MOST_CHARACTERS = 12


def is_integer(value):
    """Whether it is an integer; True and False are none."""
    return isinstance(value, int) and not isinstance(value, bool)


def is_within(value, least, most):
    """Whether it is an integer from least to most, None being no bound."""
    if not is_integer(value):
        return False
    return (least is None or value >= least) and (most is None or value <= most)


def is_name(value):
    """Whether it is a name under which a desk can keep a thing."""
    if not isinstance(value, str) or not 1 <= len(value) <= MOST_CHARACTERS:
        return False
    return value[0] in LETTERS and all([sign in LETTERS or sign in DIGITS for sign in value])


def are_integers(value):
    """Whether it is a list or tuple of integers, perhaps of none."""
    return isinstance(value, (list, tuple)) and all([is_integer(item) for item in value])


def is_fraction(value):
    """Whether it is a pair that tells a fraction in lowest terms."""
    if not are_integers(value) or len(value) != 2:
        return False
    number, by = value
    return by > 0 and gcd(number, by) == 1


def are_lengths(value):
    """Whether it is a list or tuple of integers from 1 on, no two equal."""
    return are_lengths_to(value, None) and first_twice(value) is None


def are_lengths_to(value, most):
    """Whether it is a list or tuple of integers from 1 to most, equal ones or not."""
    return isinstance(value, (list, tuple)) and all([is_within(item, 1, most) for item in value])


def is_just(value, right):
    """Whether a part of a paper is these integers, Nones and tuples of them, and not what Python takes for equal."""
    if right is None:
        return value is None
    if not isinstance(right, tuple):
        return is_integer(value) and value == right
    if not isinstance(value, tuple) or len(value) != len(right):
        return False
    return all([is_just(item, told) for item, told in zip(value, right)])


def are_ascending(value, least, most):
    """Whether it is a list or tuple of integers from least to most, each above the one ahead of it."""
    if not isinstance(value, (list, tuple)) or not all([is_within(item, least, most) for item in value]):
        return False
    return all([value[at] < value[at + 1] for at in range(len(value) - 1)])


def first_twice(values):
    """The first of these integers or strings that equals one ahead of it, or None."""
    seen = set()
    for value in values:
        if value in seen:
            return value
        seen.add(value)
    return None


def are_bounds(low, high):
    """Whether one of these two is told, and low is not above high."""
    if low is None or high is None:
        return low is not None or high is not None
    return low <= high


def common_divisor(one, other):
    """The greatest integer that divides both, 0 if both are 0."""
    need_number(one, "one")
    need_number(other, "other")
    return gcd(one, other)


def lowest(number, by):
    """The fraction number / by, in lowest terms."""
    need_number(number, "number")
    need_number(by, "by")
    if by == 0:
        raise BadNumber("by")
    divisor = gcd(number, by)
    if by < 0:
        divisor = -divisor
    return number // divisor, by // divisor


def need_number(value, part, least=None, most=None):
    """Raises BadNumber for what is no integer from least to most."""
    if not is_within(value, least, most):
        raise BadNumber(part)


def need_bound(value, part):
    """Raises BadNumber for what is neither an integer nor None."""
    if value is not None:
        need_number(value, part)


def need_lengths(value, part, most):
    """Raises BadLot for what is no list of lengths from 1 to most, then Twice for equal ones."""
    if not are_lengths_to(value, most):
        raise BadLot(part)
    need_no_twice(value)


def need_no_twice(values):
    """Raises Twice for the first of these integers or strings that equals one ahead of it."""
    twice = first_twice(values)
    if twice is not None:
        raise Twice(twice)
