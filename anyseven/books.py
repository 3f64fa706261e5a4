"""Books: a number of days, and rules."""

from anyseven.checks import are_integers, is_within, need_no_twice, need_number
from anyseven.errors import BadBook, BadNumber, Impossible, Misfit, NoRule, TooMany
from anyseven.papers import Denial
from anyseven.rows import MOST_DAYS, Row, need_row
from anyseven.rules import Rule, need_rule, need_rules, rule_at
from anyseven.texts import UNTOLD, item_at, items_of, need_end, need_item, number_at

MOST_RULES = 8


class Empty(Denial):
    """The low of rule one is above the high of rule other, which has the same length."""

    def __init__(self, one, other):
        super().__init__("empty", one, other)
        self.one = self.parts[0]
        self.other = self.parts[1]


class Book:
    """A number of days, and up to eight rules, numbered from 0."""

    def __init__(self, days, rules):
        need_number(days, "days", 1, MOST_DAYS)
        need_few_rules(rules)
        self.days = days
        self.rules = tuple(rules)

    def __eq__(self, other):
        return isinstance(other, Book) and self.days == other.days and self.rules == other.rules

    def __str__(self):
        return f"{self.days} : {rules_text(self.rules)}"

    def keeps(self, row):
        """Whether the row keeps the book."""
        return self.first_broken(row) is None

    def first_broken(self, row):
        """The number of the first broken rule and where it is broken first, None if none is."""
        need_row(row, "row")
        if row.days != self.days:
            raise Misfit("days")
        for number, rule in enumerate(self.rules):
            begin = rule.first_broken(row)
            if begin is not None:
                return number, begin
        return None

    def with_rule(self, rule):
        """The Book with this rule behind the others."""
        need_rule(rule, "rule")
        return Book(self.days, self.rules + (rule,))

    def without(self, numbers):
        """The Book without the rules with these numbers."""
        if not are_integers(numbers):
            raise BadNumber("numbers")
        for number in numbers:
            need_rule_number(self, number)
        need_no_twice(numbers)
        return Book(self.days, [rule for at, rule in enumerate(self.rules) if at not in numbers])

    def with_days(self, days):
        """The Book with the same rules and so many days."""
        return Book(days, self.rules)

    def turned(self):
        """The Book with each rule turned."""
        return Book(self.days, [rule.turned() for rule in self.rules])

    def together(self):
        """The Book with one rule for each length up to the days, ascending."""
        pair = first_empty(self)
        if pair is not None:
            raise Impossible(Empty(pair[0], pair[1]))
        lengths = sorted({rule.length for rule in self.rules if rule.length <= self.days})
        return Book(self.days, [rule_together(self.rules, length) for length in lengths])

    @staticmethod
    def read(text):
        """The Book of this text."""
        items = items_of(text)
        days = number_at(items, 0, 1, MOST_DAYS)
        need_item(items, 1, ":")
        if item_at(items, 2) == UNTOLD:
            need_end(items, 3)
            return Book(days, [])
        return Book(days, rules_at(items, 2))


def need_book(value, part):
    """Raises BadBook for what is no Book."""
    if not isinstance(value, Book):
        raise BadBook(part)


def need_few_rules(value):
    """Raises BadRule for what is no list of Rules, TooMany for more than a book can have."""
    need_rules(value, "rules")
    if len(value) > MOST_RULES:
        raise TooMany("rules", MOST_RULES)


def is_row_of(book, value):
    """Whether it is a Row that keeps the book."""
    return isinstance(value, Row) and value.days == book.days and book.keeps(value)


def need_rule_number(book, value):
    """Raises NoRule for what is no number of a rule of the book."""
    if not is_within(value, 0, len(book.rules) - 1):
        raise NoRule(value)


def rules_text(rules):
    """The texts of the rules, with / between."""
    return " / ".join([str(rule) for rule in rules]) if rules else UNTOLD


def rules_at(items, at):
    """The rules whose texts, with / between, are all items from there on."""
    rules = [rule_at(items, at)]
    ahead = at + 3
    while ahead < len(items):
        if len(rules) == MOST_RULES:
            need_end(items, ahead)
        need_item(items, ahead, "/")
        rules.append(rule_at(items, ahead + 1))
        ahead += 4
    return rules


def first_empty(book):
    """The least pair of numbers of rules of one length that leave no sum to it, or None."""
    for one, rule in enumerate(book.rules):
        for other, second in enumerate(book.rules):
            if rule.length == second.length <= book.days and not have_sum(rule.low, second.high):
                return one, other
    return None


def have_sum(low, high):
    """Whether some sum is from low to high, None being no bound."""
    return low is None or high is None or low <= high


def rule_together(rules, length):
    """The Rule that says what all of these rules that have this length say."""
    lows = [rule.low for rule in rules if rule.length == length and rule.low is not None]
    highs = [rule.high for rule in rules if rule.length == length and rule.high is not None]
    return Rule(length, max(lows, default=None), min(highs, default=None))
