"""Settled sums: what stretches of a length can bring at most in endless rows, and in long ones."""

from math import gcd

from anyseven.books import Book
from anyseven.bounds import greatest
from anyseven.checks import need_number
from anyseven.errors import Impossible
from anyseven.longest import need_lasting_rules
from anyseven.paces import paces
from anyseven.papers import Denial, Paper
from anyseven.rows import MOST_DAYS
from anyseven.rules import need_rules


class Settled(Paper):
    """The settled sum of a length, counts that make it at this cost, and a row that has it."""

    def __init__(self, most, forth, back, row):
        super().__init__("settled", most, forth, back, row)
        self.most = self.parts[0]
        self.forth = self.parts[1]
        self.back = self.parts[2]
        self.row = self.parts[3]


class NoSum(Denial):
    """What divides all lengths but not this one, or None if steps lead one way only."""

    def __init__(self, divisor):
        super().__init__("nosum", divisor)
        self.divisor = self.parts[0]


def settled(rules, length):
    """The Settled of the length, or the NoSum if no counts of the rules make it."""
    need_settled(rules, length)
    days = max(length, settled_from(rules))
    clash = paces(rules)
    if not clash:
        raise Impossible(clash)
    # On so many days the least counts are steps of a way along a stretch.
    paper = greatest(Book(days, rules), 0, length)
    if paper:
        forth, back = counts_of_steps(rules, paper.way, 1), counts_of_steps(rules, paper.way, -1)
        return Settled(paper.number, forth, back, paper.row)
    divisor = divisor_of(rules)
    return NoSum(divisor if divisor > 0 and length % divisor != 0 else None)


def settled_from(rules):
    """From how many days on the greatest sums of all stretches are settled."""
    need_lasting_rules(rules)
    lengths = sorted({rule.length for rule in rules})
    if len(lengths) < 2:
        return max(lengths, default=1)
    return lengths[-1] + lengths[-2] - 1


def divisor_of(rules):
    """The greatest common divisor of the lengths of all rules, 0 without a rule."""
    divisor = 0
    for rule in rules:
        divisor = gcd(divisor, rule.length)
    return divisor


def counts_of_steps(rules, way, sign):
    """How often the way takes the step of each rule in this direction."""
    return [len([step for step in way if step[1:] == (number, sign)]) for number in range(len(rules))]


def need_settled(rules, length):
    """Raises what is told of rules and a length, those of what is no list or number ahead of those of too many."""
    need_rules(rules, "rules")
    need_number(length, "length", 1, MOST_DAYS)
    need_lasting_rules(rules)
