"""Level rows, and the steady part of others."""

from anyseven.checks import lowest
from anyseven.rows import need_row


def is_level(row):
    """Whether the total of the row is 0."""
    need_row(row, "row")
    return row.total == 0


def steady(row):
    """The total divided by the days, a fraction."""
    need_row(row, "row")
    return lowest(row.total, row.days)


def levelled(row):
    """The Row with as many times each gain as there are days, less the total."""
    need_row(row, "row")
    return row.times(row.days).plus(-row.total)
