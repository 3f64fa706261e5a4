"""Stretches of a row of amounts that have a share of both, or the rest of it."""

from anyseven.amounts import need_amounts, twice_round
from anyseven.checks import lowest
from anyseven.level_lengths import overlaid
from anyseven.papers import Denial, Paper
from anyseven.quotients import is_at_most
from anyseven.shares import Balance, Share, moments_with, need_share


class NoShare(Denial):
    """Stretches with this part of the first total have all more, 1, or all less, -1, of the second one."""

    def __init__(self, sign):
        super().__init__("noshare", sign)
        self.sign = self.parts[0]


class Rest(Paper):
    """The moments between which a stretch has the rest of both."""

    def __init__(self, first, last):
        super().__init__("rest", first, last)
        self.first = self.parts[0]
        self.last = self.parts[1]


def share_of_row(amounts, share):
    """The Share of a stretch of the row that has the share of both, or the NoShare."""
    need_share(amounts, share)
    found = moments_with(amounts, share, days_of_row(amounts))
    if found is None:
        return NoShare(sign_of(amounts, share))
    return Share(found[0], found[1])


def share_or_rest(amounts, share):
    """The Share of a stretch of the row that has the share of both, or the Rest of one that has the rest."""
    need_share(amounts, share)
    found = moments_with(amounts, share, days_of_row(amounts))
    if found is not None:
        return Share(found[0], found[1])
    first, last = moments_with(amounts, rest_of_share(share), days_of_row(amounts))
    return Rest(first, last)


def half(amounts):
    """The Share of a stretch of the row that has half of both."""
    return share_of_row(amounts, (1, 2))


def share_spans(amounts):
    """The tuple of the spans of all shares that stretches of the row have, ascending."""
    need_amounts(amounts, "amounts")
    balance = Balance(amounts)
    spans = []
    for one, other in days_of_row(amounts):
        ends = balance.ends(one, other)
        if ends is not None:
            spans.append((max(0, ends[0][0]), ends[1][0]))
    return tuple([(lowest(least, balance.whole), lowest(most, balance.whole)) for least, most in overlaid(spans)])


def days_of_row(amounts):
    """The pairs of the days in which stretches of the row begin and end."""
    return [(one, other) for one in range(amounts.days) for other in range(one, amounts.days)]


def rest_of_share(share):
    """What the share leaves of 1."""
    return share[1] - share[0], share[1]


def sign_of(amounts, share):
    """1 if stretches with this part of the first total have more of the second one, -1 if they have no more."""
    # All of them have, or none has, where no stretch has the share of both; so the first one tells.
    part = amounts.parts((0, 1), moment_with(amounts, share))[1]
    return -1 if is_at_most(part, share) else 1


def moment_with(amounts, share):
    """The first moment at which there has been this part of the first total."""
    row = twice_round(amounts, 0)
    wanted = share[0] * amounts.totals[0]
    day = 0
    while row.heights[day + 1] * share[1] < wanted:
        day += 1
    by = share[1] * row.gains[day]
    return lowest(day * by + wanted - row.heights[day] * share[1], by)
