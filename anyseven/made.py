"""Level rows made to miss just the lengths of a closed lot."""

from anyseven.closed import closed
from anyseven.errors import Impossible, TooMany
from anyseven.rows import Row, gains_of

MADE_DAYS = 24


def made_row(days, lengths):
    """A level Row that misses just these lengths, all of them gaining."""
    paper = closed(days, lengths)
    need_made_days(days)
    if not paper:
        raise Impossible(paper)
    return Row(gains_of(hopf_heights(days, lengths)))


def hopf_heights(days, lot):
    """The heights of a level row that misses just this closed lot."""
    # A place is over earlier ones alone. So heights that ascend among the places that the last one
    # is over, and among all others, are greater than all that their places are over.
    inner = [place - days if days - place in lot else place for place in range(1, days)]
    return [0] + inner + [0]


def need_made_days(days):
    """Raises TooMany for more days than rows are made of."""
    if days > MADE_DAYS:
        raise TooMany("days", MADE_DAYS)
