"""How many days rules last, or a pace that keeps them for ever."""

from anyseven.books import Book, need_few_rules
from anyseven.checks import lowest
from anyseven.errors import TooMany
from anyseven.kept import kept
from anyseven.pairs_of_lengths import LONGEST_LENGTH
from anyseven.papers import Denial, Paper

# Two rules of unlike lengths up to 24 that clash last no longer than those of 24 and 23 days.
MOST_LASTING = 45


class Longest(Paper):
    """The most days that the rules last, a row of so many, and a ring on one day more."""

    def __init__(self, days, row, ring):
        super().__init__("longest", days, row, ring)
        self.days = self.parts[0]
        self.row = self.parts[1]
        self.ring = self.parts[2]


class ForEver(Denial):
    """A pace that keeps all rules: there is no most."""

    def __init__(self, pace):
        super().__init__("forever", pace)
        self.pace = self.parts[0]


def longest(rules):
    """The Longest of the rules, or the ForEver if they last for ever."""
    need_lasting_rules(rules)
    pace = pace_of(rules)
    if pace is not None:
        return ForEver(pace)
    days = most_days(rules)
    row = None if days == 0 else kept(Book(days, rules)).row
    return Longest(days, row, kept(Book(days + 1, rules)).steps)


def most_days(rules):
    """How many days the rules last, None if they last for ever."""
    if pace_of(rules) is not None:
        return None
    lasting, failing = 0, MOST_LASTING + 1
    while failing - lasting > 1:
        days = (lasting + failing) // 2
        if kept(Book(days, rules)):
            lasting = days
        else:
            failing = days
    return lasting


def pace_of(rules):
    """A fraction that is a pace of the rules, None if there is none."""
    # If there are paces, the greatest low divided by its length is one; without lows the least
    # high is; without rules any fraction.
    fractions = [lowest(rule.low, rule.length) for rule in rules if rule.low is not None]
    fractions.extend([lowest(rule.high, rule.length) for rule in rules if rule.high is not None])
    for fraction in fractions + [(0, 1)]:
        if is_pace(rules, fraction):
            return fraction
    return None


def is_pace(rules, fraction):
    """Whether this many times its length is within the bounds of each rule."""
    number, by = fraction
    for rule in rules:
        brought = rule.length * number
        if rule.low is not None and rule.low * by > brought:
            return False
        if rule.high is not None and rule.high * by < brought:
            return False
    return True


def need_lasting_rules(rules):
    """Raises BadRule for what is no list of Rules, TooMany for more than eight, or for a longer one."""
    need_few_rules(rules)
    for rule in rules:
        if rule.length > LONGEST_LENGTH:
            raise TooMany("length", LONGEST_LENGTH)
