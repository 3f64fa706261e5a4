"""All closed lots of some days: just what level rows of so many days can miss."""

from anyseven.checks import need_number
from anyseven.closed import is_sum_within
from anyseven.errors import TooMany
from anyseven.rows import MOST_DAYS

LOT_DAYS = 16


def missed_lots(days):
    """The tuple of all closed lots, in order."""
    need_lot_days(days)
    lots = [()]
    # Put to longer ones, a length changes nothing of how these add up, so each closed lot comes
    # from one that is closed.
    for length in range(days - 1, 0, -1):
        lots = lots + [(length,) + lot for lot in lots if goes_with(days, length, lot)]
    return tuple(in_order(lots))


def in_order(lots):
    """The lots in their order: shorter ones first, those as long as one another as tuples."""
    return sorted(sorted(lots), key=len)


def many_missed_lots(days):
    """How many closed lots there are."""
    return len(missed_lots(days))


def greatest_lots(days):
    """The tuple of the closed lots that lie within no other one, in order."""
    return tuple([lot for lot in missed_lots(days) if is_greatest(days, lot)])


def goes_with(days, length, lot):
    """Whether a closed lot of longer ones is closed with this length, too."""
    return all([is_sum_within(days, lot, length + other) for other in (length,) + lot])


def is_greatest(days, lot):
    """Whether a closed lot has one of each two unlike lengths that add up to the days."""
    return all([length in lot or days - length in lot for length in range(1, (days + 1) // 2)])


def need_lot_days(days):
    """Raises BadNumber for what is no number of days, TooMany for more than all lots are told of."""
    need_number(days, "days", 1, MOST_DAYS)
    if days > LOT_DAYS:
        raise TooMany("days", LOT_DAYS)
