"""How many duties fit, and their numbers."""

from anyseven.checks import are_integers, is_within, need_number
from anyseven.duties import are_works, is_duty, need_days_and_rules, need_duty
from anyseven.errors import BadNumber, TooMany
from anyseven.rows import Row, need_row
from anyseven.rules import need_rules

COUNT_DAYS = 24
COUNT_LENGTH = 8
MOST_DUTIES = 400


class Beginnings:
    """The beginnings of duties that break no rule, counted by how many days they have and what the last of these are.

    Just so many last days are kept as tell whether a duty can go on.
    """

    def __init__(self, days, rules):
        self.days = days
        self.rules = rules
        self.last_days = max([rule.length for rule in rules], default=1) - 1
        self.here = [{(): 1}]
        for day in range(days):
            self.here.append(self._day_later(self.here[day]))
        self.onward = {days: {last: 1 for last in self.here[days]}}
        for day in range(days - 1, -1, -1):
            self.onward[day] = {last: self._ways_on(day, last) for last in self.here[day]}

    def behind(self, last, work):
        """The last days with this one behind them, None if it breaks a rule."""
        gains = last + (work,)
        for rule in self.rules:
            ahead = len(gains) - rule.length
            if ahead >= 0 and not is_within(sum(gains[ahead:]), rule.low, rule.high):
                return None
        return gains[max(0, len(gains) - self.last_days):]

    def many_on(self, day, last, work):
        """How many ways to go on have this work on this day, behind these last ones."""
        behind = self.behind(last, work)
        return 0 if behind is None else self.onward[day + 1][behind]

    def _day_later(self, counts):
        later = {}
        for last in counts:
            for work in (0, 1):
                behind = self.behind(last, work)
                if behind is not None:
                    later[behind] = later.get(behind, 0) + counts[last]
        return later

    def _ways_on(self, day, last):
        return self.many_on(day, last, 0) + self.many_on(day, last, 1)


def many_duties(days, rules):
    """How many duties fit."""
    need_countable(days, rules)
    return many_in_all(Beginnings(days, rules))


def many_from(days, rules, begun):
    """How many duties that fit begin with these gains."""
    need_days_and_rules(days, rules)
    if not are_integers(begun) or not are_works(begun) or len(begun) > days:
        raise BadNumber("begun")
    need_countable(days, rules)
    beginnings = Beginnings(days, rules)
    last = ()
    for work in begun:
        last = beginnings.behind(last, work)
        if last is None:
            return 0
    return beginnings.onward[len(begun)][last]


def day_counts(days, rules):
    """For each day how many duties that fit have work on it."""
    need_countable(days, rules)
    beginnings = Beginnings(days, rules)
    counts = []
    for day in range(days):
        here = beginnings.here[day]
        counts.append(sum([here[last] * beginnings.many_on(day, last, 1) for last in here]))
    return tuple(counts)


def duty_at(days, rules, number):
    """The Row of the duty with this number."""
    need_countable(days, rules)
    beginnings = Beginnings(days, rules)
    need_number(number, "number", 0, many_in_all(beginnings) - 1)
    return duty_numbered(beginnings, number)


def number_of(rules, row):
    """The number of the row among the duties of its days, None if it does not fit."""
    need_rules(rules, "rules")
    need_row(row, "row")
    need_countable(row.days, rules)
    if not is_duty(row):
        return None
    beginnings = Beginnings(row.days, rules)
    number, last = 0, ()
    for day, work in enumerate(row.gains):
        # All duties that are alike so far and rest on this day come ahead of those that work.
        if work == 1:
            number += beginnings.many_on(day, last, 0)
        last = beginnings.behind(last, work)
        if last is None:
            return None
    return number


def all_duties(days, rules):
    """The tuple of all duties that fit, by their numbers."""
    need_countable(days, rules)
    beginnings = Beginnings(days, rules)
    many = many_in_all(beginnings)
    if many > MOST_DUTIES:
        raise TooMany("duties", MOST_DUTIES)
    return tuple([duty_numbered(beginnings, number) for number in range(many)])


def many_in_all(beginnings):
    """How many duties there are."""
    return beginnings.onward[0][()]


def duty_numbered(beginnings, number):
    """The Row of the duty with this number, which some duty has."""
    gains, last = [], ()
    for day in range(beginnings.days):
        many = beginnings.many_on(day, last, 0)
        work = 0 if number < many else 1
        number -= many * work
        gains.append(work)
        last = beginnings.behind(last, work)
    return Row(gains)


def need_countable(days, rules):
    """Raises what is told of days and rules of duties that are counted."""
    need_duty(days, rules)
    if days > COUNT_DAYS:
        raise TooMany("days", COUNT_DAYS)
    for rule in rules:
        if rule.length > COUNT_LENGTH:
            raise TooMany("length", COUNT_LENGTH)
