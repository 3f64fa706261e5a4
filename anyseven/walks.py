"""Walks, rows of 1 and -1: which lots the level ones miss."""

from itertools import combinations

from anyseven.checks import is_within
from anyseven.errors import BadNumber, TooMany
from anyseven.missed import missed_lot
from anyseven.missed_lots import in_order
from anyseven.rows import MOST_DAYS, Row

WALK_DAYS = 12


def walk_lots(days):
    """The tuple of the pairs of all lots that level walks miss, each with the first such walk."""
    need_walk_days(days)
    first = {}
    # Days that lose, taken in this order, make walks in the ascending order of their gains.
    for losing in combinations(range(days), int(days // 2)):
        walk = Row([-1 if day in losing else 1 for day in range(days)])
        first.setdefault(missed_lot(walk), walk)
    return tuple([(lot, first[lot]) for lot in in_order(list(first))])


def need_walk_days(days):
    """Raises BadNumber for what is no number of days of a level walk, TooMany for more than are gone through."""
    if not is_within(days, 2, MOST_DAYS) or days % 2 != 0:
        raise BadNumber("days")
    if days > WALK_DAYS:
        raise TooMany("days", WALK_DAYS)
