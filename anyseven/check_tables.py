"""Which papers of tables, of told signs, and of missed lengths and others are right."""

from anyseven.apart import Joined, Parted, need_apart
from anyseven.checks import are_integers, is_just, is_within
from anyseven.closed import are_counts
from anyseven.missed import missed_lot
from anyseven.rows import Row
from anyseven.sorts import sort_of
from anyseven.tables import SignsRing, SignsRow, Table, need_signs, table_of
from anyseven.unlike import BothSigns, Home, has_ring, need_unlike, walk_from


def shows_table(row, value):
    """Whether it is the Table of the row."""
    right = table_of(row)
    return type(value) is Table and is_just(value.parts, right.parts)


def shows_signs(days, gaining, losing, is_level, value):
    """Whether it is a SignsRow of any row with the told signs, or a SignsRing of any ring of steps up."""
    need_signs(days, gaining, losing, is_level)
    if type(value) is SignsRow:
        return has_signs(days, gaining, losing, is_level, value.row)
    if type(value) is not SignsRing or not are_places(days, value.places) or len(value.places) == 0:
        return False
    return goes_up(days, gaining, losing, is_level, value.places + value.places[:1])


def has_signs(days, gaining, losing, is_level, row):
    """Whether it is a Row of so many days, level if that is asked, in which the lengths have their signs."""
    if not isinstance(row, Row) or row.days != days or (is_level and row.total != 0):
        return False
    if not all([sort_of(row, length) == "gains" for length in gaining if length <= days]):
        return False
    return all([sort_of(row, length) == "loses" for length in losing if length <= days])


def are_places(days, value):
    """Whether it is a list or tuple of places."""
    return are_integers(value) and all([is_within(place, 0, days) for place in value])


def goes_up(days, gaining, losing, is_level, places):
    """Whether a step goes up from each of these places to the next one."""
    for at in range(len(places) - 1):
        begins = alike_places(days, is_level, places[at])
        ends = alike_places(days, is_level, places[at + 1])
        ways = [end - begin for begin in begins for end in ends]
        if not any([way in gaining or -way in losing for way in ways]):
            return False
    return True


def alike_places(days, is_level, place):
    """The places that count as this one."""
    return (0, days) if is_level and place in (0, days) else (place,)


def shows_unlike(days, gaining, losing, value):
    """Whether it is a BothSigns of any row in which the one gains and the other loses, or a right Home."""
    need_unlike(days, gaining, losing)
    if type(value) is BothSigns:
        return has_signs(days, [gaining], [losing], True, value.row)
    if type(value) is not Home or not are_places(days, value.places):
        return False
    if not has_ring(days, gaining, losing):
        return value.places in [walk_from(days, gaining, losing, end) for end in (0, days)]
    if len(value.places) < 2 or value.places[0] != value.places[-1]:
        return False
    return goes_up(days, [gaining], [losing], False, value.places)


def shows_apart(days, missed, others, value):
    """Whether it is a Parted of any row that misses the ones and no others, or a Joined of any made length."""
    need_apart(days, missed, others)
    if type(value) is Parted:
        return has_parted(days, missed, others, value.row)
    if type(value) is not Joined or not is_within(value.length, 1, days):
        return False
    return (value.length == days or value.length in others) and are_counts(value.counts, missed, value.length)


def has_parted(days, some, others, row):
    """Whether it is a level Row of so many days that misses all of some lengths and none of others."""
    if not isinstance(row, Row) or row.days != days or row.total != 0:
        return False
    lot = missed_lot(row)
    return all([length in lot for length in some]) and not any([length in lot for length in others])
