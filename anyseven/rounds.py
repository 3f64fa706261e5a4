"""Rounds: days that come again and again."""

from anyseven.books import need_few_rules
from anyseven.checks import are_integers, is_within, lowest, need_number
from anyseven.errors import BadRound, TooMany
from anyseven.paces import ceiling, floor
from anyseven.papers import Denial, Paper
from anyseven.rows import MOST_DAYS, Row
from anyseven.rules import need_rule
from anyseven.sorts import word_of


class Round:
    """A round of 1 to 48 days."""

    def __init__(self, gains):
        if not are_integers(gains) or len(gains) == 0:
            raise BadRound("gains")
        if len(gains) > MOST_DAYS:
            raise TooMany("days", MOST_DAYS)
        self.gains = tuple(gains)
        self.days = len(gains)
        self.total = sum(gains)

    def __len__(self):
        return len(self.gains)

    def __eq__(self, other):
        return isinstance(other, Round) and self.gains == other.gains

    def sum_of(self, begin, length):
        """The sum of the stretch of this length from this day on, perhaps several times round."""
        need_number(begin, "begin")
        need_number(length, "length", 1)
        times, rest = divmod(length, self.days)
        return times * self.total + sum(self._gains_from(begin)[:rest])

    def sort_of(self, length):
        """The word of the sort of this length."""
        return word_of(self._sums(length))

    def keeps(self, rule):
        """Whether each stretch of the rule's length has a sum within its bounds."""
        need_rule(rule, "rule")
        return all([is_within(brought, rule.low, rule.high) for brought in self._sums(rule.length)])

    def turned(self, by):
        """The Round whose day 0 is this day."""
        need_number(by, "by")
        return Round(self._gains_from(by))

    def twice(self):
        """The Round of its days, and of these once more."""
        return Round(self.gains + self.gains)

    def row(self, begin, days):
        """The Row of so many days from this one on."""
        need_number(begin, "begin")
        need_number(days, "days", 1, MOST_DAYS)
        return Row([self.gains[(begin + day) % self.days] for day in range(days)])

    def _gains_from(self, day):
        first = day % self.days
        return self.gains[first:] + self.gains[:first]

    def _sums(self, length):
        return [self.sum_of(begin, length) for begin in range(self.days)]


class Totals(Paper):
    """The least and the greatest total of rounds that keep the rules, None where there is none."""

    def __init__(self, low, high):
        super().__init__("totals", low, high)
        self.low = self.parts[0]
        self.high = self.parts[1]


class NoTotal(Denial):
    """Two rules that let no integer be the total, by the low of the one and the high of the other."""

    def __init__(self, one, other):
        super().__init__("nototal", one, other)
        self.one = self.parts[0]
        self.other = self.parts[1]


def totals(days, rules):
    """The Totals of rounds of so many days that keep the rules, or the NoTotal of the least pair of numbers."""
    need_number(days, "days", 1, MOST_DAYS)
    need_few_rules(rules)
    for one, rule in enumerate(rules):
        for other, second in enumerate(rules):
            if lets_no_total(days, rule, second):
                return NoTotal(one, other)
    lows = [total_of_low(days, rule) for rule in rules if rule.low is not None]
    highs = [total_of_high(days, rule) for rule in rules if rule.high is not None]
    return Totals(max(lows, default=None), min(highs, default=None))


def lets_no_total(days, one, other):
    """Whether the low of the one rule and the high of the other leave no total."""
    if one.low is None or other.high is None:
        return False
    return total_of_low(days, one) > total_of_high(days, other)


def total_of_low(days, rule):
    """The least total that the low of the rule allows."""
    return ceiling(lowest(rule.low, rule.length), days)


def total_of_high(days, rule):
    """The greatest total that the high of the rule allows."""
    return floor(lowest(rule.high, rule.length), days)
