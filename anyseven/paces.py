"""Paces: how much a day can bring, in the mean, where rules are kept for ever."""

from anyseven.books import need_few_rules
from anyseven.checks import lowest
from anyseven.errors import Impossible
from anyseven.papers import Denial, Paper
from anyseven.quotients import greatest_fraction, least_fraction
from anyseven.rules import do_clash


class Paces(Paper):
    """The least pace and the greatest one, None where there is none."""

    def __init__(self, low, high):
        super().__init__("paces", low, high)
        self.low = self.parts[0]
        self.high = self.parts[1]


class Clash(Denial):
    """Two rules that clash, the low of the one with the high of the other."""

    def __init__(self, one, other):
        super().__init__("clash", one, other)
        self.one = self.parts[0]
        self.other = self.parts[1]


def paces(rules):
    """The Paces of the rules, or the Clash of the least pair of numbers."""
    need_few_rules(rules)
    for one, rule in enumerate(rules):
        for other, second in enumerate(rules):
            if do_clash(rule, second):
                return Clash(one, other)
    return Paces(least_pace(rules), greatest_pace(rules))


def simplest_pace(rules):
    """The pace with the least by, of such ones the one nearest to 0."""
    paper = paces(rules)
    if not paper:
        raise Impossible(paper)
    by = 1
    while not has_integer(paper, by):
        by += 1
    return nearest(paper, by), by


def least_pace(rules):
    """The greatest low divided by its length, None without lows."""
    return greatest_fraction([lowest(rule.low, rule.length) for rule in rules if rule.low is not None])


def greatest_pace(rules):
    """The least high divided by its length, None without highs."""
    return least_fraction([lowest(rule.high, rule.length) for rule in rules if rule.high is not None])


def has_integer(paper, times):
    """Whether so many times some pace is an integer."""
    return paper.low is None or paper.high is None or ceiling(paper.low, times) <= floor(paper.high, times)


def nearest(paper, times):
    """The integer nearest to 0 that is so many times a pace."""
    if paper.low is not None and ceiling(paper.low, times) > 0:
        return ceiling(paper.low, times)
    if paper.high is not None and floor(paper.high, times) < 0:
        return floor(paper.high, times)
    return 0


def floor(fraction, times):
    """The greatest integer that is not above so many times the fraction."""
    return fraction[0] * times // fraction[1]


def ceiling(fraction, times):
    """The least integer that is not below so many times the fraction."""
    return -(-fraction[0] * times // fraction[1])
