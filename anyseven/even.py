"""Even rows: the endless rows in which stretches of one length differ by one at most."""

from anyseven.checks import need_number
from anyseven.quotients import need_fraction
from anyseven.rows import MOST_DAYS, Row


def even_gain(pace, day):
    """The gain of a day in the even row of the pace."""
    need_fraction(pace, "pace")
    need_number(day, "day")
    return gain_of(pace, day)


def even_row(pace, begin, days):
    """The Row of so many days of the even row of the pace, from this day on."""
    need_fraction(pace, "pace")
    need_number(begin, "begin")
    need_number(days, "days", 1, MOST_DAYS)
    return Row([gain_of(pace, begin + day) for day in range(days)])


def gain_of(pace, day):
    """The gain of a day in the even row of the pace."""
    number, by = pace
    return (day + 1) * number // by - day * number // by
