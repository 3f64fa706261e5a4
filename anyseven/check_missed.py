"""Which papers of missed lengths and of lots are right."""

from anyseven.checks import is_integer, is_just
from anyseven.closed import Closed, Closure, Makes, NotClosed, are_counts, closed, closure, is_sum_within
from anyseven.made import need_made_days
from anyseven.missed import Missed, missed
from anyseven.rows import Row


def shows_missed(row, value):
    """Whether it is the Missed of the level row."""
    right = missed(row)
    return type(value) is Missed and is_just(value.signs, right.signs)


def shows_closed(days, lengths, value):
    """Whether it is the Closed of the lengths, or a NotClosed of any pair that shows that they are not."""
    paper = closed(days, lengths)
    if type(value) is Closed:
        return bool(paper)
    return type(value) is NotClosed and is_pair_apart(days, lengths, value)


def is_pair_apart(days, lengths, paper):
    """Whether the two lengths of a NotClosed are told, and their sum ought to be, or is the days."""
    if not is_integer(paper.one) or not is_integer(paper.other) or paper.one > paper.other:
        return False
    if paper.one not in lengths or paper.other not in lengths:
        return False
    return not is_sum_within(days, lengths, paper.one + paper.other)


def shows_closure(days, lengths, value):
    """Whether it is the Closure of the lengths, or a Makes of any counts that make the days."""
    paper = closure(days, lengths)
    if type(value) is Closure:
        return bool(paper) and is_just(value.lengths, paper.lengths)
    return type(value) is Makes and are_counts(value.counts, lengths, days)


def shows_made(days, lengths, value):
    """Whether it is a level Row of so many days that misses just these lengths, all of them gaining."""
    closed(days, lengths)
    need_made_days(days)
    if not isinstance(value, Row) or value.days != days or value.total != 0:
        return False
    return missed(value).signs == tuple([(length, 1) for length in sorted(lengths)])
