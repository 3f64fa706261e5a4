"""Level rows that miss some lengths and do not miss others."""

from anyseven.checks import need_lengths, need_number
from anyseven.closed import counts_of, last_lengths
from anyseven.made import made_row, need_made_days
from anyseven.papers import Denial, Paper
from anyseven.rows import MOST_DAYS


class Parted(Paper):
    """A level row that misses all of the ones and none of the others."""

    def __init__(self, row):
        super().__init__("parted", row)
        self.row = self.parts[0]


class Joined(Denial):
    """The days, or one of the others, and how often the missed ones are taken to make it."""

    def __init__(self, length, counts):
        super().__init__("joined", length, counts)
        self.length = self.parts[0]
        self.counts = self.parts[1]


def apart(days, missed, others):
    """The Parted of a row that misses some lengths but no others, or the Joined of what the missed ones make."""
    need_apart(days, missed, others)
    last = last_lengths(days, missed)
    for length in [days] + sorted(others):
        if length in last:
            return Joined(length, counts_of(last, length))
    return Parted(made_row(days, sorted(last)))


def need_apart(days, missed, others):
    """Raises what is told of days, of lengths that are missed and of others that are not."""
    need_number(days, "days", 1, MOST_DAYS)
    need_lengths(missed, "missed", days - 1)
    need_lengths(others, "others", days - 1)
    need_made_days(days)
