"""Which papers of the fewest and the most days of work are right."""

from anyseven.books import is_row_of
from anyseven.duties import duty_book
from anyseven.duty_bounds import Duties
from anyseven.ways import is_way


def shows_fewest(days, rules, value):
    """Whether it is a Duties of any row with as few days of work as any."""
    return shows_duties(duty_book(days, rules), value, -1)


def shows_most(days, rules, value):
    """Whether it is a Duties of any row with as many days of work as any."""
    return shows_duties(duty_book(days, rules), value, 1)


def shows_duties(book, value, sign):
    """Whether it is a Duties of a row that keeps the duty book, and of a way that bears out its days of work.

    The most have the sign 1.
    """
    if type(value) is not Duties or not is_row_of(book, value.row):
        return False
    first, last = (0, book.days) if sign == 1 else (book.days, 0)
    return is_way(book, value.way, first, last, sign * value.row.total)
