"""Which papers of stretches that begin within days are right."""

from anyseven.checks import is_integer
from anyseven.level_stretches import Sign, Stretch, excesses, need_length, steady_part
from anyseven.moments import sum_between
from anyseven.quotients import fraction_sum, is_at_most, is_fraction_within
from anyseven.rows import need_row


def shows_level(row, length, value):
    """Whether it is a Stretch of any moment at which one with the sum 0 begins, or the right Sign."""
    need_row(row, "row")
    need_length(row, length)
    return shows_sum(row, length, (0, 1), value)


def shows_average(row, length, value):
    """Whether it is a Stretch of any moment at which one with the steady part begins, or the right Sign."""
    need_row(row, "row")
    need_length(row, length)
    return shows_sum(row, length, steady_part(row, length), value)


def shows_sum(row, length, amount, value):
    """Whether it is a Stretch of any moment at which one with this sum begins, or the right Sign."""
    if type(value) is Stretch:
        return begins_with(row, length, amount, value.begin)
    if type(value) is not Sign or not is_integer(value.sign) or value.sign not in (1, -1):
        return False
    return all([excess * value.sign > 0 for _, excess in excesses(row, length, amount)])


def begins_with(row, length, amount, begin):
    """Whether a stretch of this length with this sum begins at this moment."""
    if not is_fraction_within(begin, (0, 1), None):
        return False
    end = fraction_sum(begin, length)
    return is_at_most(end, (row.days, 1)) and sum_between(row, begin, end) == amount
