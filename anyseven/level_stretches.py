"""Stretches of any length that begin within days: which of them have just some sum."""

from anyseven.checks import lowest
from anyseven.errors import BadFraction
from anyseven.moments import height_times
from anyseven.papers import Denial, Paper
from anyseven.quotients import is_fraction_within, need_fraction
from anyseven.rows import need_row


class Stretch(Paper):
    """A moment at which a stretch with what is asked begins."""

    def __init__(self, begin):
        super().__init__("stretch", begin)
        self.begin = self.parts[0]


class Sign(Denial):
    """1 if all sums are above what is asked, -1 if all are below."""

    def __init__(self, sign):
        super().__init__("sign", sign)
        self.sign = self.parts[0]


def sum_begins(row, length, amount):
    """The tuple of the spans of all moments at which stretches of this length with just this sum begin."""
    need_row(row, "row")
    need_length(row, length)
    need_fraction(amount, "amount")
    return spans_of(row, length, amount)


def level_stretch(row, length):
    """The Stretch of the first moment at which one with the sum 0 begins, or the Sign."""
    need_row(row, "row")
    need_length(row, length)
    return stretch_of(row, length, (0, 1))


def average_stretch(row, length):
    """The Stretch of the first moment at which one with the steady part begins, or the Sign."""
    need_row(row, "row")
    need_length(row, length)
    return stretch_of(row, length, steady_part(row, length))


def stretch_of(row, length, amount):
    """The Stretch of the first moment at which one with this sum begins, or the Sign."""
    spans = spans_of(row, length, amount)
    if spans:
        return Stretch(spans[0][0])
    return Sign(1 if excesses(row, length, amount)[0][1] > 0 else -1)


def spans_of(row, length, amount):
    """The tuple of the spans of all begins of stretches with this sum, ascending."""
    found = excesses(row, length, amount)
    spans = []
    for at, (begin, excess) in enumerate(found):
        if excess == 0:
            spans.append((lowest(begin, length[1]), lowest(begin, length[1])))
        if at + 1 < len(found):
            spans.extend(spans_between(found[at], found[at + 1], length[1]))
    return tuple(joined(spans))


def excesses(row, length, amount):
    """The pairs of all begins between which the sum goes evenly and the excess of the sum over the amount there.

    A begin is told times the by of the length, an excess times the bys of the length and of the amount.
    """
    span, by = length
    last = row.days * by - span
    places = [day * by for day in range(row.days + 1)]
    begins = sorted({begin for place in places for begin in (place, place - span) if 0 <= begin <= last})
    found = []
    for begin in begins:
        brought = height_times(row, begin + span, by) - height_times(row, begin, by)
        found.append((begin, brought * amount[1] - amount[0] * by))
    return found


def spans_between(one, other, by):
    """The spans without an excess from one begin to the next one; at the begins alone there is none."""
    begin, excess = one
    end, later = other
    if excess == 0 and later == 0:
        return [(lowest(begin, by), lowest(end, by))]
    if excess * later >= 0:
        return []
    moment = lowest(begin * (excess - later) + (end - begin) * excess, (excess - later) * by)
    return [(moment, moment)]


def joined(spans):
    """The ascending spans with those that meet made one."""
    found = []
    for first, last in spans:
        if found and found[-1][1] == first:
            first, _ = found.pop()
        found.append((first, last))
    return found


def steady_part(row, length):
    """The steady part of the length, a fraction."""
    return lowest(length[0] * row.total, length[1] * row.days)


def need_length(row, value):
    """Raises BadFraction for what is no fraction above 0 and at most the days of the row."""
    if not is_fraction_within(value, None, (row.days, 1)) or value[0] <= 0:
        raise BadFraction("length")
