"""Which papers of paces, of totals and of settled sums are right."""

from anyseven.books import Book, is_row_of
from anyseven.checks import is_integer, is_just, is_within
from anyseven.closed import last_lengths
from anyseven.paces import Clash, Paces, paces
from anyseven.rounds import NoTotal, Totals, lets_no_total, totals
from anyseven.rows import Row
from anyseven.rules import do_clash
from anyseven.settled import NoSum, Settled, need_settled, settled_from
from anyseven.sorts import sums


def shows_paces(rules, value):
    """Whether it is the Paces of the rules, or a Clash of any two that clash."""
    right = paces(rules)
    if type(value) is Clash:
        return are_numbers(rules, value) and do_clash(rules[value.one], rules[value.other])
    return type(value) is Paces and type(right) is Paces and is_just(value.parts, right.parts)


def shows_totals(days, rules, value):
    """Whether it is the Totals of the rules, or a NoTotal of any two that let no integer be the total."""
    right = totals(days, rules)
    if type(value) is NoTotal:
        return are_numbers(rules, value) and lets_no_total(days, rules[value.one], rules[value.other])
    return type(value) is Totals and type(right) is Totals and is_just(value.parts, right.parts)


def are_numbers(rules, paper):
    """Whether the two parts of a paper are numbers of rules."""
    return all([is_within(part, 0, len(rules) - 1) for part in paper.parts])


def shows_settled(rules, length, value):
    """Whether it is a right Settled, or a right NoSum, of the length; of rules that clash none is."""
    need_settled(rules, length)
    if not paces(rules):
        return False
    if type(value) is NoSum:
        return is_never_made(rules, length, value.divisor)
    if type(value) is not Settled or not is_integer(value.most):
        return False
    if not are_counts_of(rules, value.forth) or not are_counts_of(rules, value.back):
        return False
    return counts_make(rules, value, length) and is_row_with(rules, length, value)


def is_never_made(rules, length, divisor):
    """Whether the divisor shows that no counts make the length, or None, where steps lead one way only."""
    if divisor is None:
        return lead_one_way(rules) and not can_make(rules, length)
    if not is_within(divisor, 1, None) or len(rules) == 0 or length % divisor == 0:
        return False
    return all([rule.length % divisor == 0 for rule in rules])


def lead_one_way(rules):
    """Whether only highs, or only lows, or no rules are told."""
    return all([rule.low is None for rule in rules]) or all([rule.high is None for rule in rules])


def can_make(rules, length):
    """Whether the lengths of rules whose steps lead one way make this one."""
    return length in last_lengths(length, [rule.length for rule in rules if rule.high is not None])


def are_counts_of(rules, value):
    """Whether it is a list or tuple of an integer from 0 on for each rule."""
    if not isinstance(value, (list, tuple)) or len(value) != len(rules):
        return False
    return all([is_within(many, 0, None) for many in value])


def counts_make(rules, paper, length):
    """Whether the counts of a Settled take only steps that are told, and make the length at the cost that is told."""
    made, cost = 0, 0
    for rule, forth, back in zip(rules, paper.forth, paper.back):
        if (forth > 0 and rule.high is None) or (back > 0 and rule.low is None):
            return False
        made += (forth - back) * rule.length
        cost += (0 if forth == 0 else forth * rule.high) - (0 if back == 0 else back * rule.low)
    return made == length and cost == paper.most


def is_row_with(rules, length, paper):
    """Whether the row of a Settled keeps the rules, is long enough, and has a stretch with what is told."""
    row = paper.row
    if not isinstance(row, Row) or row.days < max(length, settled_from(rules)):
        return False
    return is_row_of(Book(row.days, rules), row) and paper.most in sums(row, length)
