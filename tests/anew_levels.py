"""What points 8 and 9 tell, worked out anew from their words, for the tests to compare with.

Fractions are Python's own here; pair makes of one what the document tells.
"""

from fractions import Fraction
from math import gcd

from anyseven.closed import Closed, Closure, Makes, NotClosed
from anyseven.level_stretches import Sign, Stretch
from anyseven.missed import Missed
from anyseven.rows import Row
from tests.anew import is_closed, is_number, made_by


def pair(number):
    return (Fraction(number).numerator, Fraction(number).denominator)


def is_pair(value):
    """Whether it is a fraction as the document tells one."""
    if not isinstance(value, (list, tuple)) or len(value) != 2 or not all(map(is_number, value)):
        return False
    return value[1] > 0 and gcd(*value) == 1


def signs_of(gains):
    """The lengths below the days that gain or lose, with their signs, each stretch added up."""
    found = []
    for length in range(1, len(gains)):
        sums = [sum(gains[begin:begin + length]) for begin in range(len(gains) - length + 1)]
        if min(sums) > 0:
            found.append((length, 1))
        if max(sums) < 0:
            found.append((length, -1))
    return tuple(found)


def height(gains, moment):
    """The height at a moment, gains of days behind one another added up."""
    whole = moment.numerator // moment.denominator
    return Fraction(sum(gains[:whole])) + (moment - whole) * (gains[whole] if whole < len(gains) else 0)


def sum_at(gains, begin, length):
    return height(gains, begin + length) - height(gains, begin)


def turns(gains, length):
    """All begins at which the sum of a stretch of this length can change its pace, ascending."""
    last = len(gains) - length
    begins = {Fraction(place) for place in range(len(gains) + 1)}
    begins |= {begin - length for begin in begins}
    return sorted(begin for begin in begins if 0 <= begin <= last)


def sign_of(gains, length, amount):
    """0 if a stretch of this length has just this sum, otherwise whether all are above it (1) or below it (-1)."""
    excesses = [sum_at(gains, begin, length) - amount for begin in turns(gains, length)]
    if min(excesses) > 0:
        return 1
    return -1 if max(excesses) < 0 else 0


def is_same_integers(value, right):
    """Whether it is a tuple of just these integers, or of tuples of them."""
    if isinstance(right, tuple):
        if not isinstance(value, tuple) or len(value) != len(right):
            return False
        return all(is_same_integers(*both) for both in zip(value, right))
    return is_number(value) and value == right


def right_missed(row, paper):
    return type(paper) is Missed and is_same_integers(paper.parts[0], signs_of(row.gains))


def right_closed(days, lengths, paper):
    if type(paper) is Closed:
        return is_closed(days, lengths)
    if type(paper) is not NotClosed or not all(map(is_number, paper.parts)):
        return False
    one, other = paper.parts
    if one > other or one not in lengths or other not in lengths:
        return False
    return one + other == days or (one + other < days and one + other not in lengths)


def right_counts(counts, lengths, number):
    """Whether it is ascending pairs of these lengths and numbers from 1 on that make the number."""
    if not isinstance(counts, tuple) or not all(isinstance(some, tuple) and len(some) == 2 for some in counts):
        return False
    if not all(is_number(part) for some in counts for part in some):
        return False
    told = [length for length, _ in counts]
    if told != sorted(set(told)) or not set(told) <= set(lengths) or not all(many >= 1 for _, many in counts):
        return False
    return sum(length * many for length, many in counts) == number


def right_closure(days, lengths, paper):
    made = made_by(days, lengths)
    if type(paper) is Closure:
        return days not in made and is_same_integers(paper.parts[0], tuple(made))
    return type(paper) is Makes and right_counts(paper.parts[0], lengths, days)


def right_made(days, lengths, value):
    if not isinstance(value, Row) or len(value.gains) != days or sum(value.gains) != 0:
        return False
    return signs_of(value.gains) == tuple((length, 1) for length in sorted(lengths))


def right_stretch(row, length, amount, paper):
    """Whether a Stretch or a Sign is right for stretches of this length with this sum."""
    gains = row.gains
    if type(paper) is Sign:
        return is_number(paper.parts[0]) and paper.parts[0] != 0 and paper.parts[0] == sign_of(gains, length, amount)
    if type(paper) is not Stretch or not is_pair(paper.parts[0]):
        return False
    begin = Fraction(*paper.parts[0])
    return 0 <= begin <= len(gains) - length and sum_at(gains, begin, length) == amount
