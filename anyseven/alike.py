"""Two lengths whose sums are all equal: whether those of their common divisor are."""

from math import gcd

from anyseven.checks import need_number
from anyseven.papers import Denial, Paper
from anyseven.rows import MOST_DAYS, Row


class Alike(Paper):
    """For each day that has another one the divisor later a lead from it to this one."""

    def __init__(self, leads):
        super().__init__("alike", leads)
        self.leads = self.parts[0]


class Unlike(Denial):
    """A row in which all sums of both lengths are equal, but not all of the divisor."""

    def __init__(self, row):
        super().__init__("unlike", row)
        self.row = self.parts[0]


def alike(days, one, other):
    """The Alike if equal sums of both lengths make those of their common divisor equal, otherwise an Unlike."""
    need_two_lengths(days, one, other)
    divisor = gcd(one, other)
    leads = []
    for day in range(days - divisor):
        came = days_led_to(days, (one, other), day)
        if day + divisor not in came:
            # The days to which leads come have a gain of their own; the one the divisor later has another.
            return Unlike(Row([1 if some in came else 0 for some in range(days)]))
        leads.append(lead_to(came, day + divisor))
    return Alike(leads)


def days_led_to(days, lengths, first):
    """A dict with all days to which leads come from the first, and the day ahead of each, None of the first."""
    came = {first: None}
    waiting = [first]
    while waiting:
        day = waiting.pop()
        for length in lengths:
            for near in (day - length, day + length):
                if 0 <= near < days and near not in came:
                    came[near] = day
                    waiting.append(near)
    return came


def lead_to(came, day):
    """The days of the lead that comes to this one, which is last."""
    lead = []
    while day is not None:
        lead.append(day)
        day = came[day]
    return lead[::-1]


def need_two_lengths(days, one, other):
    """Raises BadNumber for what is no number of days, or no length."""
    need_number(days, "days", 1, MOST_DAYS)
    need_number(one, "one", 1, MOST_DAYS)
    need_number(other, "other", 1, MOST_DAYS)
