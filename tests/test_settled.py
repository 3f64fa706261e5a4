"""Points 10 and 12: settled sums, and from how many days on they hold."""

import random
from math import gcd
from time import perf_counter

from anyseven.books import Book
from anyseven.bounds import greatest
from anyseven.errors import BadNumber, BadRule, Impossible, TooMany
from anyseven.paces import Clash, paces
from anyseven.papers import Denial
from anyseven.rules import Rule
from anyseven.settled import NoSum, Settled, settled, settled_from
from tests.anew import keeps_all, triples
from tests.anew_paces import clashing, cost_of_counts, settled_sum
from tests.support import NO_INTEGERS, NO_LISTS, Case
from tests.test_paces import some_rules
from tests.test_rules import NO_RULES

SHORT = [Rule(3, None, 2), Rule(2, 1)]
FIVE = [Rule(5, None, 12), Rule(7, 16)]


def from_days(rules):
    lengths = sorted({rule.length for rule in rules}, reverse=True)
    return 1 if not lengths else lengths[0] if len(lengths) == 1 else lengths[0] + lengths[1] - 1


class Sums(Case):

    def right(self, rules, length):
        """The settled sum, None if there is none; the paper is looked at."""
        told = triples(rules)
        pairs = clashing(told)
        if pairs:
            self.refuses(Impossible(Clash(*pairs[0])), settled, rules, length)
            return "clash"
        paper = settled(rules, length)
        self.is_same(settled(length=length, rules=tuple(rules)) == paper, True)
        number = settled_sum(told, length)
        if number is None:
            divisor = 0
            for rule in rules:
                divisor = gcd(divisor, rule.length)
            right = divisor if divisor and length % divisor else None
            self.is_same((type(paper), paper.word, paper.parts, bool(paper)), (NoSum, "nosum", (right,), False))
            self.is_same(paper.divisor, right)
            self.assertTrue(isinstance(paper, Denial))
            return None
        parts = (paper.most, paper.forth, paper.back, paper.row)
        self.is_same((type(paper), paper.word, paper.parts, bool(paper)), (Settled, "settled", parts, True))
        self.is_same(paper.most, number)
        self.is_same((len(paper.forth), len(paper.back)), (len(rules), len(rules)))
        self.assertTrue(all(type(many) is int and many >= 0 for many in paper.forth + paper.back))
        self.is_same(cost_of_counts(told, paper.forth, paper.back), (number, length))
        gains = paper.row.gains
        self.assertTrue(len(gains) >= length and len(gains) >= from_days(rules) and keeps_all(gains, told))
        self.assertIn(number, [sum(gains[begin:begin + length]) for begin in range(len(gains) - length + 1)])
        self.assertTrue(all(abs(height) < 10 ** 60 for height in paper.row.heights))
        return number

    def test_against_least_counts(self):
        seen = {"clash": 0, "sum": 0, "none": 0}
        chance = random.Random(601)
        for rules in some_rules(602, 300):
            number = self.right(rules, chance.randint(1, 48))
            seen["none" if number is None else number if number == "clash" else "sum"] += 1
        self.assertGreater(min(seen.values()), 30)

    def test_longer_rules(self):
        chance = random.Random(603)
        for rules in some_rules(604, 60, 24, 2):
            for length in (1, 24, 48, chance.randint(1, 48)):
                self.right(rules, length)

    def test_one_direction(self):
        for length in range(1, 49):
            self.right([Rule(3, None, 5), Rule(5, None, 7)], length)
            self.right([Rule(4, None, 5), Rule(6, None, 7)], length)
            self.right([Rule(24, None, -3), Rule(23, None, 9)], length)
            self.is_same(self.right([Rule(3, 5)], length), None)
            self.is_same(self.right([Rule(4, 5), Rule(6, -7)], length), None)
            self.is_same(self.right([], length), None)
            self.is_same(settled([], length), NoSum(None))
            self.is_same(self.right([Rule(1, None, 4)], length), 4 * length)

    def test_equal_lengths_and_lengths_that_divide(self):
        for rules in (
                [Rule(4, 1, 6), Rule(4, 2)], [Rule(4, 1, 6), Rule(8, None, 9)], [Rule(12, 5), Rule(6, None, 9), Rule(3, None, 9)],
                [Rule(2, 2, 2), Rule(2, 2, 2)], [Rule(24, 0, 5), Rule(1, 0)], [Rule(1, 0, 0)] * 8, [Rule(6, None, 9), Rule(12, 3)]):
            for length in (1, 2, 3, 4, 6, 11, 12, 24, 47, 48):
                self.right(rules, length)

    def test_no_stretch_brings_more(self):
        for rules in some_rules(605, 40, 6):
            if paces(rules):
                days = max(from_days(rules), 7)
                for length in range(1, 8):
                    told = self.right(rules, length)
                    for begin in range(days - length + 1):
                        paper = greatest(Book(days, rules), begin, length)
                        self.is_same(paper.number if paper else None, told)

    def test_more_days_change_nothing(self):
        for rules in some_rules(606, 25, 7):
            if paces(rules):
                for days in (from_days(rules), from_days(rules) + 1, 30):
                    for length in range(1, min(days, 9) + 1):
                        told = self.right(rules, length)
                        for begin in (0, (days - length) // 2, days - length):
                            paper = greatest(Book(days, rules), begin, length)
                            self.is_same(paper.number if paper else None, told)

    def test_fewer_days_are_not_enough(self):
        for one, other in ((3, 2), (7, 5), (6, 4), (24, 23), (12, 3), (5, 1)):
            rules = [Rule(one, None, one * 10), Rule(other, other * -10)]
            enough = settled_from(rules)
            self.is_same(enough, one + other - 1)
            length = gcd(one, other)
            self.assertTrue(settled(rules, length))
            book = Book(enough, rules)
            for begin in range(enough - length + 1):
                self.is_same(greatest(book, begin, length).number, settled(rules, length).most)
            if other > 1:
                # On a day less no step leads from this place.
                self.is_same(bool(greatest(book.with_days(enough - 1), other - 1, length)), False)

    def test_edges(self):
        self.is_same(settled(SHORT, 1).parts[:3], (1, (1, 0), (0, 1)))
        self.is_same(settled([Rule(24, 1, 1)], 48).parts[:3], (2, (2,), (0,)))
        self.is_same(settled([Rule(24, 1, 1)], 47), NoSum(24))
        self.is_same(settled([Rule(24, 1, 1), Rule(23, 0)], 48).row.days, 48)
        self.is_same(settled([Rule(4, None, 1), Rule(2, -3)], 3), NoSum(2))
        self.is_same(settled([Rule(4, 9)], 3), NoSum(4))

    def test_rules_that_clash(self):
        rules = [Rule(3, None, 0), Rule(2, 1), Rule(1, 5)]
        self.refuses(Impossible(Clash(1, 0)), settled, rules, 1)
        self.refuses(Impossible(Clash(1, 0)), settled, rules, 48)


class FromDays(Case):

    def test_from_days(self):
        for rules in some_rules(611, 200, 24):
            self.is_same(settled_from(rules), from_days(rules))
            self.is_same(settled_from(rules=tuple(rules)), from_days(rules))

    def test_edges(self):
        for rules, right in (
                ([], 1), ([Rule(1, 0)], 1), ([Rule(24, 0)], 24), ([Rule(24, 0)] * 8, 24), ([Rule(24, 0), Rule(23, 0)], 46),
                ([Rule(5, 0), Rule(5, None, 3), Rule(2, 1)], 6), ([Rule(1, 1), Rule(2, None, 0)], 2), ([Rule(1, 1), Rule(1, None, 0)], 1)):
            self.is_same(settled_from(rules), right)


class Wrong(Case):

    def test_rules(self):
        calls = (settled_from, lambda rules: settled(rules, 1), lambda rules: settled(rules, None))
        for call in calls:
            for value in NO_LISTS + (FIVE[0],):
                self.refuses(BadRule("rules"), call, value)
            for value in NO_RULES:
                self.refuses(BadRule("rules"), call, [value])
                self.refuses(BadRule("rules"), call, [Rule(25, 1)] * 9 + [value])
        for call in calls[:2]:
            self.refuses(TooMany("rules", 8), call, [Rule(1, 1)] * 9)
            self.refuses(TooMany("rules", 8), call, [Rule(25, 1), Rule(1, None, 0)] * 5)
            self.refuses(TooMany("length", 24), call, [Rule(25, 1)])
            self.refuses(TooMany("length", 24), call, [Rule(1, 1), Rule(1, None, 0), Rule(48, 1)])
            call([Rule(24, 1)] * 8)

    def test_lengths(self):
        for value in NO_INTEGERS + (0, -1, 49, 10 ** 70):
            self.refuses(BadNumber("length"), settled, FIVE, value)
            self.refuses(BadNumber("length"), settled, [Rule(1, 1), Rule(1, None, 0)], value)
            self.refuses(BadNumber("length"), settled, [Rule(25, 1)] * 9, value)
            self.refuses(BadNumber("length"), settled, length=value, rules=[])


class Time(Case):

    def test_time(self):
        rules = [Rule(length, -length * 1000, length * 1001 + length % 7) for length in range(17, 25)]
        begun = perf_counter()
        for length in range(1, 49):
            settled(rules, length)
        self.assertLess(perf_counter() - begun, 3)
