"""Rules: what all stretches of a length bring."""

from anyseven.checks import are_bounds, is_within, need_bound, need_number
from anyseven.errors import BadRule
from anyseven.rows import need_row
from anyseven.texts import bound_text, bounds_at, items_of, need_end, number_at

MOST_LENGTH = 48


class Rule:
    """A length with a low and a high, None for one that is not told."""

    def __init__(self, length, low=None, high=None):
        need_number(length, "length", 1, MOST_LENGTH)
        need_bound(low, "low")
        need_bound(high, "high")
        if not are_bounds(low, high):
            raise BadRule("bounds")
        self.length = length
        self.low = low
        self.high = high

    def __eq__(self, other):
        if not isinstance(other, Rule):
            return False
        return self.length == other.length and self.low == other.low and self.high == other.high

    def __str__(self):
        return f"{self.length} {bound_text(self.low)} {bound_text(self.high)}"

    def keeps(self, row):
        """Whether the row keeps the rule."""
        return self.first_broken(row) is None

    def first_broken(self, row):
        """The first begin of a stretch with a sum beyond the bounds, None if there is none."""
        need_row(row, "row")
        for begin in range(row.days - self.length + 1):
            if not is_within(row.sum_of(begin, self.length), self.low, self.high):
                return begin
        return None

    def turned(self):
        """The Rule for the rows times -1."""
        return Rule(self.length, contrary(self.high), contrary(self.low))

    def times(self, number):
        """The Rule with its bounds times this integer above 0."""
        need_number(number, "number", 1)
        low = None if self.low is None else self.low * number
        high = None if self.high is None else self.high * number
        return Rule(self.length, low, high)

    def added(self, other):
        """The Rule with the bounds of both that both tell."""
        if not isinstance(other, Rule) or other.length != self.length:
            raise BadRule("other")
        return Rule(self.length, both_told(self.low, other.low), both_told(self.high, other.high))

    @staticmethod
    def read(text):
        """The Rule of this text."""
        items = items_of(text)
        rule = rule_at(items, 0)
        need_end(items, 3)
        return rule


def contrary(bound):
    """The bound times -1, None if it is not told."""
    return None if bound is None else -bound


def both_told(one, other):
    """The sum of two bounds, None if one is not told."""
    return None if one is None or other is None else one + other


def do_clash(one, other):
    """Whether the low of the one, divided by its length, is above the high of the other, divided by its own."""
    if one.low is None or other.high is None:
        return False
    return one.low * other.length > other.high * one.length


def need_rule(value, part):
    """Raises BadRule for what is no Rule."""
    if not isinstance(value, Rule):
        raise BadRule(part)


def need_rules(value, part):
    """Raises BadRule for what is no list of Rules."""
    if not isinstance(value, (list, tuple)) or not all([isinstance(rule, Rule) for rule in value]):
        raise BadRule(part)


def rule_at(items, at):
    """The Rule whose text is the three items from there on."""
    length = number_at(items, at, 1, MOST_LENGTH)
    low, high = bounds_at(items, at + 1)
    return Rule(length, low, high)
