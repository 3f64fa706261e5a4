"""The fewest and the most days of work in duties, and days on which all duties are alike."""

from anyseven.bounds import greatest, ground_of, least
from anyseven.duties import duty_book
from anyseven.errors import TooMany
from anyseven.papers import Paper

SURE_DAYS = 24


class Duties(Paper):
    """A duty that fits, and a way that lets none have less, or more, work."""

    def __init__(self, row, way):
        super().__init__("duties", row, way)
        self.row = self.parts[0]
        self.way = self.parts[1]


def fewest_duties(days, rules):
    """The Duties with as few days of work as any."""
    bound = least(duty_book(days, rules), 0, days)
    return Duties(bound.row, bound.way)


def most_duties(days, rules):
    """The Duties with as many days of work as any."""
    bound = greatest(duty_book(days, rules), 0, days)
    return Duties(bound.row, bound.way)


def sure_days(days, rules):
    """The pair of the tuples of all sure and of all free days."""
    book = duty_book(days, rules)
    if days > SURE_DAYS:
        raise TooMany("days", SURE_DAYS)
    ground = ground_of(book)
    costs = [ground.ways_from(place)[0] for place in range(days + 1)]
    sure = [day for day in range(days) if costs[day + 1][day] == -1]
    free = [day for day in range(days) if costs[day][day + 1] == 0]
    return tuple(sure), tuple(free)
