"""What points 8 and 11 tell, worked out anew from their words, for the tests to compare with."""

from anyseven.apart import Joined, Parted
from anyseven.rows import Row
from anyseven.tables import SignsRing, SignsRow, Table
from anyseven.unlike import BothSigns, Home
from tests.anew import is_number
from tests.anew_levels import is_same_integers, right_counts


def signs_to_days(gains):
    """The lot of all lengths that gain, and that of all that lose, each stretch added up."""
    lots = ([], [])
    for length in range(1, len(gains) + 1):
        sums = [sum(gains[begin:begin + length]) for begin in range(len(gains) - length + 1)]
        if min(sums) > 0:
            lots[0].append(length)
        if max(sums) < 0:
            lots[1].append(length)
    return tuple(lots[0]), tuple(lots[1])


def is_up(days, gaining, losing, level, one, other):
    """Whether a step goes up from a place to another one; in level rows either may stand for the other end."""
    ends = {0: (0, days), days: (0, days)} if level else {}
    for begin in ends.get(one, (one,)):
        for end in ends.get(other, (other,)):
            if any(begin + length == end for length in gaining) or any(begin - length == end for length in losing):
                return True
    return False


def ups(days, gaining, losing, level):
    """All pairs of two places with a step up; in level rows the last place is told as 0."""
    places = range(days if level else days + 1)
    return {(one, other) for one in places for other in places if is_up(days, gaining, losing, level, one, other)}


def ways_up(days, gaining, losing, level):
    """All pairs of two places with a way up of a step or more, found by joining ways until no more come."""
    found = ups(days, gaining, losing, level)
    places = range(days + 1)
    for by in places:
        for one in places:
            if (one, by) in found:
                found |= {(one, other) for other in places if (by, other) in found}
    return found


def is_possible(days, gaining, losing, level):
    return not any(one == other for one, other in ways_up(days, gaining, losing, level))


def forced_lots(days, gaining, losing, level):
    """The lengths that gain, and those that lose, in all rows of these signs."""
    found = ways_up(days, gaining, losing, level)
    lots = ([], [])
    for length in range(1, days + 1):
        pairs = [(begin, begin + length) for begin in range(days - length + 1)]
        if level:
            pairs = [(begin % days, end % days) for begin, end in pairs]
        if all(pair in found for pair in pairs):
            lots[0].append(length)
        if all(pair[::-1] in found for pair in pairs):
            lots[1].append(length)
    return tuple(lots[0]), tuple(lots[1])


def are_places(days, value):
    return isinstance(value, (list, tuple)) and all(is_number(place) and 0 <= place <= days for place in value)


def has_signs(days, gaining, losing, level, row):
    if not isinstance(row, Row) or len(row.gains) != days or (level and sum(row.gains) != 0):
        return False
    up, down = signs_to_days(row.gains)
    return all(length in up or length > days for length in gaining) and all(length in down or length > days for length in losing)


def right_table(row, paper):
    return type(paper) is Table and is_same_integers(paper.parts, signs_to_days(row.gains))


def right_signs(days, gaining, losing, level, paper):
    if type(paper) is SignsRow:
        return has_signs(days, gaining, losing, level, paper.parts[0])
    if type(paper) is not SignsRing or not are_places(days, paper.parts[0]) or len(paper.parts[0]) == 0:
        return False
    places = list(paper.parts[0])
    return all(is_up(days, gaining, losing, level, one, other) for one, other in zip(places, places[1:] + places[:1]))


def walks_home(days, gaining, losing):
    """The walks of two lengths, unlike and together above the days, that come to an end of the row."""
    found = []
    for end, place in ((0, gaining), (days, days - losing)):
        walk = [end, place]
        while 0 < walk[-1] < days:
            nexts = [place for place in (walk[-1] + gaining, walk[-1] - losing) if 0 <= place <= days]
            if not nexts:
                break
            walk.extend(nexts)
        else:
            found.append(tuple(walk))
    return found


def right_unlike(days, gaining, losing, paper):
    if type(paper) is BothSigns:
        return has_signs(days, [gaining], [losing], True, paper.parts[0])
    if type(paper) is not Home or not are_places(days, paper.parts[0]):
        return False
    places = list(paper.parts[0])
    if gaining != losing and gaining + losing > days:
        return tuple(places) in walks_home(days, gaining, losing)
    if len(places) < 2 or places[0] != places[-1]:
        return False
    return all(other - one in (gaining, -losing) for one, other in zip(places, places[1:]))


def right_apart(days, ones, others, paper):
    if type(paper) is Parted:
        row = paper.parts[0]
        if not isinstance(row, Row) or len(row.gains) != days or sum(row.gains) != 0:
            return False
        found = [length for lot in signs_to_days(row.gains) for length in lot]
        return set(ones) <= set(found) and not set(others) & set(found)
    if type(paper) is not Joined:
        return False
    length, counts = paper.parts
    return is_number(length) and (length == days or length in others) and right_counts(counts, ones, length)
