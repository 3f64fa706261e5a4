"""Duties: rows of days with work, 1, or rest, 0."""

from anyseven.books import Book
from anyseven.checks import need_number
from anyseven.errors import TooMany
from anyseven.rows import MOST_DAYS, need_row
from anyseven.rules import Rule, need_rules

MOST_DUTY_RULES = 7


def is_duty(row):
    """Whether the row has work or rest on each of its days, and nothing else."""
    need_row(row, "row")
    return are_works(row.gains)


def duty_book(days, rules):
    """The Book that just the duties that fit keep."""
    need_duty(days, rules)
    return Book(days, tuple(rules) + (Rule(1, 0, 1),))


def rested(rules):
    """The tuple of the rules that duties keep when work and rest are exchanged."""
    need_rules(rules, "rules")
    need_few_duty_rules(rules)
    return tuple([Rule(rule.length, rest_of(rule, rule.high), rest_of(rule, rule.low)) for rule in rules])


def rest_of(rule, work):
    """The days of rest where so many days of the rule's length have work, None if that is not told."""
    return None if work is None else rule.length - work


def are_works(gains):
    """Whether all of these integers are 0 or 1."""
    return all([gain in (0, 1) for gain in gains])


def need_duty(days, rules):
    """Raises what is told of days and rules of duties."""
    need_days_and_rules(days, rules)
    need_few_duty_rules(rules)


def need_days_and_rules(days, rules):
    """Raises BadNumber for no number of days, BadRule for what is no list of Rules."""
    need_number(days, "days", 1, MOST_DAYS)
    need_rules(rules, "rules")


def need_few_duty_rules(rules):
    """Raises TooMany for more rules than a book of duties has place for."""
    if len(rules) > MOST_DUTY_RULES:
        raise TooMany("rules", MOST_DUTY_RULES)
