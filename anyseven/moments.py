"""Moments of a row: heights within days, and days cut finer."""

from anyseven.checks import lowest, need_number
from anyseven.errors import TooMany
from anyseven.quotients import fraction_difference, need_fraction
from anyseven.rows import MOST_DAYS, Row, need_row


def height_at(row, moment):
    """The height at a moment, a fraction."""
    need_row(row, "row")
    need_moment(row, moment, "moment")
    return height_of(row, moment)


def sum_between(row, first, last):
    """How much higher the row is at the moment last than at first, a fraction."""
    need_row(row, "row")
    need_moment(row, first, "first")
    need_fraction(last, "last", first, (row.days, 1))
    return fraction_difference(height_of(row, last), height_of(row, first))


def cut_finer(row, parts):
    """The Row with each day so many times, one behind another."""
    need_row(row, "row")
    need_number(parts, "parts", 1)
    if row.days * parts > MOST_DAYS:
        raise TooMany("days", MOST_DAYS)
    return Row([gain for gain in row.gains for _ in range(parts)])


def height_of(row, moment):
    """The height at a moment of the row, a fraction."""
    number, by = moment
    return lowest(height_times(row, number, by), by)


def height_times(row, number, by):
    """The height at the moment number / by, by times; the two need not be in lowest terms."""
    day, rest = divmod(number, by)
    if rest == 0:
        return row.heights[day] * by
    return row.heights[day] * by + row.gains[day] * rest


def need_moment(row, value, part):
    """Raises BadFraction for what is no moment of the row."""
    need_fraction(value, part, (0, 1), (row.days, 1))
