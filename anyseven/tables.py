"""Tables of signs: which lengths gain and which lose, in a row, and in all rows of some told signs."""

from anyseven.checks import need_lengths, need_number
from anyseven.errors import BadNumber, Impossible
from anyseven.papers import Denial, Paper
from anyseven.rows import MOST_DAYS, Row, gains_of
from anyseven.sorts import table_words
from anyseven.ways import least_costs


class Table(Paper):
    """All lengths that gain, and all that lose."""

    def __init__(self, gaining, losing):
        super().__init__("table", gaining, losing)
        self.gaining = self.parts[0]
        self.losing = self.parts[1]


class SignsRow(Paper):
    """A row in which all told lengths have their signs."""

    def __init__(self, row):
        super().__init__("signsrow", row)
        self.row = self.parts[0]


class SignsRing(Denial):
    """Places from each of which a step goes up to the next one, and from the last one to the first."""

    def __init__(self, places):
        super().__init__("signsring", places)
        self.places = self.parts[0]


def table_of(row):
    """The Table of a row."""
    words = table_words(row)
    return Table(lengths_with(words, "gains"), lengths_with(words, "loses"))


def lengths_with(words, word):
    """The lengths of this sort, ascending."""
    return [at + 1 for at, told in enumerate(words) if told == word]


def signs_row(days, gaining, losing, is_level=False):
    """The SignsRow of told signs, or the SignsRing that shows that no row has them."""
    need_signs(days, gaining, losing, is_level)
    # A step that goes up is one that goes back by 1 where least costs are asked.
    links = [(place, end, -1, place) for place, end in rises(days, gaining, losing, is_level)]
    costs, ring = least_costs(many_places(days, is_level), links)
    if ring is not None:
        return SignsRing(ring)
    return SignsRow(Row(gains_of([-costs[place % len(costs)] for place in range(days + 1)])))


def forced(days, gaining, losing, is_level=False):
    """The Table of all lengths that gain, and of all that lose, in all rows with the told signs."""
    paper = signs_row(days, gaining, losing, is_level)
    if not paper:
        raise Impossible(paper)
    many = many_places(days, is_level)
    above = places_above(many, rises(days, gaining, losing, is_level))
    up, down = [], []
    for length in range(1, days + 1):
        pairs = [(begin % many, (begin + length) % many) for begin in range(days - length + 1)]
        if all([end in above[begin] for begin, end in pairs]):
            up.append(length)
        if all([begin in above[end] for begin, end in pairs]):
            down.append(length)
    return Table(up, down)


def many_places(days, is_level):
    """How many places there are; in level rows the first and the last one are one, told as 0."""
    return days if is_level else days + 1


def rises(days, gaining, losing, is_level):
    """The list of the pairs of two places with a step up from the one to the other."""
    many = many_places(days, is_level)
    found = []
    for place in range(days + 1):
        ends = [place + length for length in gaining if place + length <= days]
        ends.extend([place - length for length in losing if place >= length])
        found.extend([(place % many, end % many) for end in ends])
    return found


def places_above(many, pairs):
    """The list of dicts with all places to which ways go up from each of so many places."""
    ends = [[] for _ in range(many)]
    for place, end in pairs:
        ends[place].append(end)
    return [places_from(ends, place) for place in range(many)]


def places_from(ends, start):
    """A dict with all places to which one comes from this one by a step or more."""
    found = {}
    waiting = [start]
    while waiting:
        place = waiting.pop()
        for end in ends[place]:
            if end not in found:
                found[end] = True
                waiting.append(end)
    return found


def need_signs(days, gaining, losing, is_level):
    """Raises what is told of days and of lengths that shall gain or lose."""
    need_number(days, "days", 1, MOST_DAYS)
    need_lengths(gaining, "gaining", None)
    need_lengths(losing, "losing", None)
    if is_level is not True and is_level is not False:
        raise BadNumber("is_level")
