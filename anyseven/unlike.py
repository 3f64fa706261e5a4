"""Two lengths of unlike signs in level rows, and all tables of level rows."""

from itertools import permutations

from anyseven.checks import need_number
from anyseven.errors import TooMany
from anyseven.papers import Denial, Paper
from anyseven.rows import MOST_DAYS, Row, gains_of
from anyseven.tables import Table, signs_row, table_of

PAIR_DAYS = 24
TABLE_DAYS = 7


class BothSigns(Paper):
    """A level row in which one length gains and another one loses."""

    def __init__(self, row):
        super().__init__("bothsigns", row)
        self.row = self.parts[0]


class Home(Denial):
    """The places of a walk from an end of the row to an end, or of a ring with its first place once more."""

    def __init__(self, places):
        super().__init__("home", places)
        self.places = self.parts[0]


def unlike_pairs(days):
    """The ascending tuple of the pairs of two lengths that gain and lose in some level row."""
    need_number(days, "days", 1, MOST_DAYS)
    if days > PAIR_DAYS:
        raise TooMany("days", PAIR_DAYS)
    pairs = [(up, down) for up in range(1, days) for down in range(1, days)]
    return tuple([(up, down) for up, down in pairs if home_of(days, up, down) is None])


def unlike(days, gaining, losing):
    """The BothSigns of two lengths, or the Home that shows that no level row has them so."""
    need_unlike(days, gaining, losing)
    places = home_of(days, gaining, losing)
    if places is not None:
        return Home(places)
    return BothSigns(signs_row(days, [gaining], [losing], True).row)


def home_of(days, up, down):
    """The places of a right Home of two lengths, None if there is none."""
    if has_ring(days, up, down):
        places = signs_row(days, [up], [down]).places
        return places + places[:1]
    walk = walk_from(days, up, down, 0)
    return walk_from(days, up, down, days) if walk is None else walk


def has_ring(days, up, down):
    """Whether steps up by the two lengths make a ring within any row of so many days."""
    return up == down or up + down <= days


def walk_from(days, up, down, end):
    """The places of the walk from this end of the row to the first end that it comes to, None if it comes to none.

    The lengths make no ring: from each place but the ends one step at most goes up.
    """
    places = [end, up if end == 0 else days - down]
    while places[-1] not in (0, days):
        place = places[-1]
        if place + up <= days:
            places.append(place + up)
        elif place >= down:
            places.append(place - down)
        else:
            return None
    return tuple(places)


def all_tables(days):
    """The tuple of all Tables of level rows of so many days, ascending."""
    need_number(days, "days", 1, MOST_DAYS)
    if days > TABLE_DAYS:
        raise TooMany("days", TABLE_DAYS)
    found = {}
    for heights in permutations(range(days)):
        found[table_of(Row(gains_of(heights + heights[:1]))).parts] = True
    return tuple([Table(up, down) for up, down in sorted(found)])


def need_unlike(days, gaining, losing):
    """Raises BadNumber for what is no number of days, or no length below them."""
    need_number(days, "days", 2, MOST_DAYS)
    need_number(gaining, "gaining", 1, days - 1)
    need_number(losing, "losing", 1, days - 1)
