"""How far a rule must be loosened so that a book is kept."""

from anyseven.books import Book, need_book, need_rule_number
from anyseven.kept import kept
from anyseven.papers import Denial, Paper
from anyseven.rules import Rule
from anyseven.ways import least_costs, links_of


class Loosened(Paper):
    """The least integer by which the rule must be loosened, a row, and a ring that asks for so much."""

    def __init__(self, by, row, ring):
        super().__init__("loosened", by, row, ring)
        self.by = self.parts[0]
        self.row = self.parts[1]
        self.ring = self.parts[2]


class NeverKept(Denial):
    """A ring of the other rules that costs less than 0: loosening this one never helps."""

    def __init__(self, ring):
        super().__init__("neverkept", ring)
        self.ring = self.parts[0]


def loosened(book, number):
    """The Loosened of the rule with this number, or the NeverKept that shows that it never helps."""
    need_book(book, "book")
    need_rule_number(book, number)
    ring = ring_without(book, number)
    if ring is not None:
        return NeverKept(ring)
    by, ring = least_loosening(book, number)
    return Loosened(by, kept(book_loosened(book, number, by)).row, ring)


def ring_without(book, number):
    """The steps of a ring that costs less than 0, none of them by this rule; None if there is none."""
    return least_costs(book.days + 1, [link for link in links_of(book) if link[3][1] != number])[1]


def least_loosening(book, number):
    """The pair of the least integer that is enough, and a ring that one less leaves below 0.

    Each ring below 0 has a step by this rule. If none is below 0 there is the pair of 0 and None.
    """
    paper = kept(book)
    if paper:
        return 0, None
    scarce, ring, enough = 0, paper.steps, enough_for(book)
    while enough - scarce > 1:
        by = (scarce + enough) // 2
        paper = kept(book_loosened(book, number, by))
        if paper:
            enough = by
        else:
            scarce, ring = by, paper.steps
    return enough, ring


def enough_for(book):
    """By how much it is enough to loosen any rule that can help at all."""
    # If a ring costs less than 0, one does that comes to no place twice: it has no more steps than
    # there are places. So one step by the rule can make up for the costs of all its steps.
    return (book.days + 1) * max([abs(link[2]) for link in links_of(book)])


def book_loosened(book, number, by):
    """The Book with the rule with this number loosened."""
    rules = list(book.rules)
    rules[number] = rule_loosened(rules[number], by)
    return Book(book.days, rules)


def rule_loosened(rule, by):
    """The Rule with its low, if told, less by so much, its high, if told, greater."""
    low = None if rule.low is None else rule.low - by
    high = None if rule.high is None else rule.high + by
    return Rule(rule.length, low, high)
