"""What point 14 tells, worked out anew from its words, for the tests to compare with.

Amounts are told here as a list of pairs; fractions are Python's own.
"""

from fractions import Fraction
from itertools import product

from anyseven.row_shares import NoShare, Rest
from anyseven.shares import Share
from tests.anew_levels import is_pair


def before(pairs, thing, moment):
    """How much of a thing there has been at a moment of the endless round."""
    whole = moment.numerator // moment.denominator
    rounds, day = divmod(whole, len(pairs))
    total = sum(pair[thing] for pair in pairs)
    return rounds * total + sum(pair[thing] for pair in pairs[:day]) + (moment - whole) * pairs[day][thing]


def parts_of(pairs, first, last):
    """The parts of both totals between two moments."""
    return tuple(
        Fraction(before(pairs, thing, last) - before(pairs, thing, first), sum(pair[thing] for pair in pairs))
        for thing in (0, 1))


def corners(pairs, one, other):
    """The ends of all stretches with equal parts of both that begin on day one and end on day other.

    Within the square of these two days such begins and ends are a point, a straight piece or all: its ends are on the
    sides of the square. Each side is told by the begin or the end, at the first or the last moment of a day.
    """
    def more(first, last):
        one_part, other_part = parts_of(pairs, first, last)
        return one_part - other_part

    found = []
    for begin, end in product((one, one + 1), (other, other + 1)):
        if more(Fraction(begin), Fraction(end)) == 0:
            found.append((Fraction(begin), Fraction(end)))
    for begin in (Fraction(one), Fraction(one + 1)):
        low, high = more(begin, Fraction(other)), more(begin, Fraction(other + 1))
        if low * high < 0:
            found.append((begin, other + low / (low - high)))
    for end in (Fraction(other), Fraction(other + 1)):
        low, high = more(Fraction(one), end), more(Fraction(one + 1), end)
        if low * high < 0:
            found.append((one + low / (low - high), end))
    return found


def spans_in(pairs, days):
    """The spans of all shares of stretches that begin and end in these pairs of days, ascending."""
    spans = []
    for one, other in days:
        shares = [parts_of(pairs, first, last)[0] for first, last in corners(pairs, one, other)]
        if shares:
            spans.append((max(Fraction(0), min(shares)), max(shares)))
    found = []
    for least, most in sorted(spans):
        if found and least <= found[-1][1]:
            found[-1] = (found[-1][0], max(most, found[-1][1]))
        else:
            found.append((least, most))
    return found


def row_spans(pairs):
    return spans_in(pairs, [(one, other) for one in range(len(pairs)) for other in range(one, len(pairs))])


def has_row_share(pairs, share):
    return any(least <= share <= most for least, most in row_spans(pairs))


def signs_of_share(pairs, share):
    """Of stretches of the row with this part of the first total: 1 for each with more of the second, -1 for less, 0."""
    total = sum(pair[0] for pair in pairs)
    places = [Fraction(at, 4) for at in range(4 * len(pairs) + 1)]
    signs = set()
    for first in places:
        wanted = before(pairs, 0, first) + share * total
        if wanted <= total:
            for last in moments_at(pairs, wanted):
                part = parts_of(pairs, first, last)[1]
                signs.add((part > share) - (part < share))
    return signs


def moments_at(pairs, wanted):
    """The first and the last moment of the row at which there has been so much of the first thing."""
    found = []
    for day, (first, _) in enumerate(pairs):
        had = before(pairs, 0, Fraction(day))
        if had <= wanted <= had + first:
            found += [day + (wanted - had) / first] if first else [Fraction(day), Fraction(day + 1)]
    return (min(found), max(found)) if found else ()


def is_stretch(pairs, first, last, most_first, most_last, share):
    """Whether these are pairs that tell moments, in order and within the bounds, with the share of both between."""
    if not isinstance(first, tuple) or not isinstance(last, tuple) or not is_pair(first) or not is_pair(last):
        return False
    first, last = Fraction(*first), Fraction(*last)
    if not 0 <= first <= most_first or not first <= last <= min(most_last, first + len(pairs)):
        return False
    return parts_of(pairs, first, last) == (share, share)


def right_round(pairs, share, paper):
    days = len(pairs)
    if type(paper) is not Share or not is_stretch(pairs, paper.first, paper.last, days, 2 * days, share):
        return False
    return Fraction(*paper.first) < days


def right_row(pairs, share, paper):
    days = len(pairs)
    if type(paper) is NoShare:
        if type(paper.sign) is not int or has_row_share(pairs, share):
            return False
        return signs_of_share(pairs, share) == {paper.sign}
    return type(paper) is Share and is_stretch(pairs, paper.first, paper.last, days, days, share)


def right_or_rest(pairs, share, paper):
    days = len(pairs)
    if type(paper) is Rest:
        return is_stretch(pairs, paper.first, paper.last, days, days, 1 - share)
    return type(paper) is Share and is_stretch(pairs, paper.first, paper.last, days, days, share)
