"""Which papers of longest rows are right."""

from anyseven.books import Book, is_row_of
from anyseven.checks import is_fraction, is_within
from anyseven.longest import MOST_LASTING, ForEver, Longest, is_pace, need_lasting_rules
from anyseven.ways import is_low_ring


def shows_longest(rules, value):
    """Whether it is a right Longest, or a right ForEver, of the rules."""
    need_lasting_rules(rules)
    if type(value) is Longest:
        return lasts_just(rules, value)
    return type(value) is ForEver and is_fraction(value.pace) and is_pace(rules, value.pace)


def lasts_just(rules, paper):
    """Whether the row of a Longest shows that the rules last its days, its ring that they last no more."""
    if not is_within(paper.days, 0, MOST_LASTING):
        return False
    lasts = paper.row is None if paper.days == 0 else is_row_of(Book(paper.days, rules), paper.row)
    return lasts and is_low_ring(Book(paper.days + 1, rules), paper.ring)
