"""All lengths, in days and parts of days, of which a level row has a stretch with the sum 0."""

from math import lcm

from anyseven.checks import lowest
from anyseven.errors import Misfit, TooMany
from anyseven.levelled import is_level
from anyseven.moments import height_of
from anyseven.quotients import fraction_sum

LEVEL_DAYS = 24


def level_lengths(row):
    """The tuple of the spans of all level lengths, 0 put to them, ascending."""
    need_level_row(row)
    scale = scale_of(row)
    spans = [(0, 0)]
    for one in range(row.days):
        for other in range(one, row.days):
            spans.extend(lengths_between(row, one, other, scale))
    return tuple([(lowest(first, scale), lowest(last, scale)) for first, last in overlaid(spans)])


def other_lengths(row):
    """The tuple of the triples of the open spans between, with 1 if their lengths gain, -1 if they lose."""
    spans = level_lengths(row)
    found = []
    for at in range(len(spans) - 1):
        first, last = spans[at][1], spans[at + 1][0]
        number, by = fraction_sum(first, last)
        # All lengths between have one sign; the height at a moment is the sum of the first
        # stretch that is as long.
        height = height_of(row, lowest(number, 2 * by))
        found.append((first, last, 1 if height[0] > 0 else -1))
    return tuple(found)


def scale_of(row):
    """A number of which each moment is a whole part at which a day has a whole height."""
    scale = 1
    for gain in row.gains:
        if gain != 0:
            scale = lcm(scale, gain)
    return scale


def lengths_between(row, one, other, scale):
    """The spans, perhaps none, of the lengths from day one to a later day, or the same, at one height, scale times."""
    # The heights that both share go evenly, and so do the lengths.
    lengths = [end - begin for begin, end in moments_alike(row, one, other, scale)]
    return [(max(0, min(lengths)), max(lengths))] if lengths else []


def moments_alike(row, one, other, scale):
    """The pairs of a moment of day one and one of day other at the least and at the greatest height that both share.

    The moments are told scale times; where the row stays as high for a day they are its first and its last one.
    """
    low = max([min(row.heights[day], row.heights[day + 1]) for day in (one, other)])
    high = min([max(row.heights[day], row.heights[day + 1]) for day in (one, other)])
    if low > high:
        return []
    pairs = []
    for height in (low, high):
        ends = moments_at(row, other, height, scale)
        pairs.extend([(begin, end) for begin in moments_at(row, one, height, scale) for end in ends])
    return pairs


def moments_at(row, day, height, scale):
    """The first and the last moment of a day at this height, which it comes to, scale times."""
    gain = row.gains[day]
    if gain == 0:
        return day * scale, (day + 1) * scale
    moment = day * scale + (height - row.heights[day]) * (scale // gain)
    return moment, moment


def overlaid(spans):
    """The spans of all that is in one of these, ascending, those that meet made one."""
    found = []
    for first, last in sorted(spans):
        if found and first <= found[-1][1]:
            first, before = found.pop()
            last = max(last, before)
        found.append((first, last))
    return found


def need_level_row(row):
    """Raises what is told of a row that is not level, or has more days than all lengths are told of."""
    if not is_level(row):
        raise Misfit("level")
    if row.days > LEVEL_DAYS:
        raise TooMany("days", LEVEL_DAYS)
