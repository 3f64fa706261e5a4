"""Which papers of bounds, of rules that follow, and of two lengths are right."""

from math import gcd

from anyseven.alike import Alike, Unlike, need_two_lengths
from anyseven.books import is_row_of, need_book
from anyseven.bounds import AnyBound, AnyUnbound, Bound, Unbound, need_length_of, need_stretch_of
from anyseven.checks import are_ascending, are_integers, is_integer, is_within
from anyseven.follows import Breaks, Follows, directions
from anyseven.rows import Row
from anyseven.rules import need_rule
from anyseven.sorts import sums
from anyseven.ways import is_way, links_of


def shows_greatest(book, begin, length, value):
    """Whether it is a right Bound of the greatest sum of the stretch, or a right Unbound."""
    need_stretch_of(book, begin, length)
    return shows_bound(book, begin, length, 1, value)


def shows_least(book, begin, length, value):
    """Whether it is a right Bound of the least sum of the stretch, or a right Unbound."""
    need_stretch_of(book, begin, length)
    return shows_bound(book, begin, length, -1, value)


def shows_any_greatest(book, length, value):
    """Whether it is a right AnyBound of the greatest sum of any stretch of this length, or a right AnyUnbound."""
    need_length_of(book, length)
    return shows_any_bound(book, length, 1, value)


def shows_any_least(book, length, value):
    """Whether it is a right AnyBound of the least sum of any stretch of this length, or a right AnyUnbound."""
    need_length_of(book, length)
    return shows_any_bound(book, length, -1, value)


def shows_bound(book, begin, length, sign, value):
    """Whether it is a right Bound, or a right Unbound, of the stretch; greatest sums have the sign 1."""
    if type(value) is Unbound:
        return are_shut(book, begin, length, sign, value.places)
    if type(value) is not Bound or not has_sum(book, value.row, begin, length, value.number):
        return False
    return bounds_stretch(book, begin, length, sign, value.number, value.way)


def shows_any_bound(book, length, sign, value):
    """Whether it is a right AnyBound, or a right AnyUnbound, of the length; greatest sums have the sign 1."""
    begins = range(book.days - length + 1)
    if type(value) is AnyUnbound:
        return is_within(value.begin, 0, book.days - length) and are_shut(book, value.begin, length, sign, value.places)
    if type(value) is not AnyBound or not is_within(value.begin, 0, book.days - length):
        return False
    if not has_sum(book, value.row, value.begin, length, value.number) or not has_items(value.ways, len(begins)):
        return False
    return all([bounds_stretch(book, begin, length, sign, value.number, value.ways[begin]) for begin in begins])


def has_sum(book, row, begin, length, number):
    """Whether it is a Row that keeps the book, in which the stretch has just this sum."""
    return is_integer(number) and is_row_of(book, row) and row.sum_of(begin, length) == number


def bounds_stretch(book, begin, length, sign, number, way):
    """Whether it is a way that lets the stretch have no greater, or no less, sum than this number."""
    if sign == 1:
        return is_way(book, way, begin, begin + length, number)
    return is_way(book, way, begin + length, begin, -number)


def are_shut(book, begin, length, sign, places):
    """Whether it is places out of which no step leads, with but that end of the stretch that bears the sum up."""
    if not are_ascending(places, 0, book.days):
        return False
    start, last = (begin, begin + length) if sign == 1 else (begin + length, begin)
    if start not in places or last in places:
        return False
    return all([link[1] in places for link in links_of(book) if link[0] in places])


def has_items(value, many):
    """Whether it is a list or tuple of so many items."""
    return isinstance(value, (list, tuple)) and len(value) == many


def shows_follows(book, rule, value):
    """Whether it is a right Follows, or a right Breaks, of the rule."""
    need_book(book, "book")
    need_rule(rule, "rule")
    if type(value) is Breaks:
        return breaks_rule(book, rule, value)
    begins = range(book.days - rule.length + 1)
    if type(value) is not Follows or not has_items(value.ways, len(begins)):
        return False
    return all([are_ways_within(book, begin, rule, value.ways[begin]) for begin in begins])


def breaks_rule(book, rule, paper):
    """Whether the row of a Breaks keeps the book, and its stretch breaks the rule."""
    if not is_row_of(book, paper.row) or not is_within(paper.begin, 0, book.days - rule.length):
        return False
    return not is_within(paper.row.sum_of(paper.begin, rule.length), rule.low, rule.high)


def are_ways_within(book, begin, rule, pair):
    """Whether it is the pair of a way home and a way forth that let the stretch not break the rule."""
    if not has_items(pair, 2):
        return False
    for way, (start, last, most) in zip(pair, directions(begin, rule)):
        if most is None:
            if way is not None:
                return False
        elif not is_way(book, way, start, last, most):
            return False
    return True


def shows_alike(days, one, other, value):
    """Whether it is a right Alike, or a right Unlike, of the two lengths."""
    need_two_lengths(days, one, other)
    divisor = gcd(one, other)
    if type(value) is Unlike:
        return is_row_unlike(days, (one, other), divisor, value.row)
    firsts = range(days - divisor)
    if type(value) is not Alike or not has_items(value.leads, len(firsts)):
        return False
    return all([is_lead(days, (one, other), day, day + divisor, value.leads[day]) for day in firsts])


def is_row_unlike(days, lengths, divisor, row):
    """Whether it is a Row of so many days with equal sums of both lengths, but not of their divisor."""
    if not isinstance(row, Row) or row.days != days:
        return False
    return all([has_equal_sums(row, length) for length in lengths]) and not has_equal_sums(row, divisor)


def has_equal_sums(row, length):
    """Whether all sums of this length are equal; a longer one than the row has none."""
    return length > row.days or min(sums(row, length)) == max(sums(row, length))


def is_lead(days, lengths, first, last, lead):
    """Whether it is days from the first to the last, each next one one of the lengths later or earlier."""
    if not are_integers(lead) or len(lead) == 0 or lead[0] != first or lead[-1] != last:
        return False
    if not all([is_within(day, 0, days - 1) for day in lead]):
        return False
    return all([abs(lead[at + 1] - lead[at]) in lengths for at in range(len(lead) - 1)])
