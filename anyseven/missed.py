"""Lengths of level rows that gain or lose, and those that never do."""

from anyseven.checks import need_number
from anyseven.errors import Misfit
from anyseven.levelled import is_level
from anyseven.papers import Paper
from anyseven.rows import MOST_DAYS
from anyseven.sorts import sort_of

SIGNS = {"gains": 1, "loses": -1}


class Missed(Paper):
    """The pairs of the missed lengths of a level row and their signs."""

    def __init__(self, signs):
        super().__init__("missed", signs)
        self.signs = self.parts[0]


def missed(row):
    """The Missed of a level row."""
    if not is_level(row):
        raise Misfit("level")
    sorts = [(length, sort_of(row, length)) for length in range(1, row.days)]
    return Missed([(length, SIGNS[word]) for length, word in sorts if word in SIGNS])


def missed_lot(row):
    """The lot of the missed lengths of a level row."""
    return tuple([length for length, _ in missed(row).signs])


def never_missed(days):
    """The ascending tuple of the lengths below days that no level row of so many days misses."""
    need_number(days, "days", 1, MOST_DAYS)
    return tuple([length for length in range(1, days) if days % length == 0])
