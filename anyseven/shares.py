"""Stretches of a round that have a share of both amounts, and how stretches with shares of both are found."""

from anyseven.amounts import need_amounts, twice_round
from anyseven.checks import is_fraction, lowest
from anyseven.errors import BadFraction
from anyseven.level_lengths import moments_alike, scale_of
from anyseven.moments import height_times
from anyseven.papers import Paper


class Share(Paper):
    """The moments between which a stretch has the share of both."""

    def __init__(self, first, last):
        super().__init__("share", first, last)
        self.first = self.parts[0]
        self.last = self.parts[1]


class Balance:
    """Two amounts over two rounds, and a row that rises where there is more of the first thing than of the second.

    Between two moments at which this row is as high there are equal parts of both. Moments are told scale times, parts
    of the totals as many times as the whole.
    """

    def __init__(self, amounts):
        first_total, second_total = amounts.totals
        self.firsts = twice_round(amounts, 0)
        self.row = self.firsts.times(second_total).added(twice_round(amounts, 1).times(-first_total))
        self.scale = scale_of(self.row)
        self.whole = first_total * self.scale

    def ends(self, one, other):
        """The pair of the stretches with the least and the greatest share that begin on day one and end on day other.

        Each is told as its share, its begin and its end. It is None if no such stretch has equal parts of both.
        """
        found = []
        for begin, end in moments_alike(self.row, one, other, self.scale):
            share = height_times(self.firsts, end, self.scale) - height_times(self.firsts, begin, self.scale)
            found.append((share, begin, end))
        return (min(found), max(found)) if found else None

    def stretch_with(self, least, greatest, share):
        """The pair of the moments of a stretch between these two that has the share, None if none has."""
        number, by = share
        if not least[0] * by <= number * self.whole <= greatest[0] * by:
            return None
        # From the one stretch to the other begin, end and share all go evenly.
        over, span = number * self.whole - least[0] * by, (greatest[0] - least[0]) * by
        if span == 0:
            return lowest(least[1], self.scale), lowest(least[2], self.scale)
        begin = least[1] * span + (greatest[1] - least[1]) * over
        end = least[2] * span + (greatest[2] - least[2]) * over
        return lowest(begin, self.scale * span), lowest(end, self.scale * span)


def share_of_round(amounts, share):
    """The Share of a stretch of the round that has the share of both."""
    need_share(amounts, share)
    # A stretch that begins behind the last day is found before, as one that begins ahead of the first.
    first, last = moments_with(amounts, share, days_of_round(amounts))
    return Share(first, last)


def days_of_round(amounts):
    """The pairs of the days in which stretches of the round begin and end."""
    # One that comes home into its own day leaves a part of this day, with equal parts of both: moved to the end of the
    # day, this part leaves a stretch that begins with the next day.
    return [(one, one + more) for one in range(amounts.days) for more in range(amounts.days)]


def moments_with(amounts, share, pairs):
    """The pair of the moments of a stretch that has the share, of those that begin and end in these days, or None."""
    balance = Balance(amounts)
    for one, other in pairs:
        ends = balance.ends(one, other)
        found = None if ends is None else balance.stretch_with(ends[0], ends[1], share)
        if found is not None:
            return found
    return None


def need_share(amounts, share):
    """Raises BadAmounts for no Amounts, BadFraction for what is no fraction above 0 and below 1."""
    need_amounts(amounts, "amounts")
    if not is_fraction(share) or not 0 < share[0] < share[1]:
        raise BadFraction("share")
