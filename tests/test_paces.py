"""Point 12: paces of rules or a clash, the simplest pace, and even rows."""

import random
from fractions import Fraction
from time import perf_counter

from anyseven.books import Book
from anyseven.errors import BadFraction, BadNumber, BadRule, Impossible, TooMany
from anyseven.even import even_gain, even_row
from anyseven.longest import longest
from anyseven.paces import Clash, Paces, paces, simplest_pace
from anyseven.papers import Denial
from anyseven.rows import Row
from anyseven.rules import Rule
from tests.anew import keeps_all, tight_rules, triples
from tests.anew_levels import pair
from tests.anew_paces import clashing, is_pace, pace_bounds
from tests.support import NO_INTEGERS, NO_LISTS, Case
from tests.test_moments import NO_FRACTIONS
from tests.test_rules import NO_RULES

HUGE = 10 ** 5000
FIVE = [Rule(5, None, 12), Rule(7, 16)]


def some_rules(seed, count, most_length=12, slack=3):
    chance = random.Random(seed)
    for _ in range(count):
        rules = []
        for _ in range(chance.randint(0, 4)):
            length = chance.randint(1, most_length)
            middle = length * chance.choice((2, 3)) + chance.randint(-slack, slack)
            low = chance.choice((None, middle - chance.randint(0, slack)))
            high = middle + chance.randint(0, slack) if low is None or chance.random() < 0.5 else None
            rules.append(Rule(length, low, high))
        yield rules


class AllPaces(Case):

    def right(self, rules):
        paper, pairs = paces(rules), clashing(triples(rules))
        self.is_same(paces(rules=tuple(rules)) == paper, True)
        if pairs:
            self.is_same((type(paper), paper.word, paper.parts, bool(paper)), (Clash, "clash", pairs[0], False))
            self.is_same((paper.one, paper.other), pairs[0])
            self.assertTrue(isinstance(paper, Denial))
            self.refuses(Impossible(paper), simplest_pace, rules)
            return False
        told = tuple(None if bound is None else pair(bound) for bound in pace_bounds(triples(rules)))
        self.is_same((type(paper), paper.word, paper.parts, bool(paper)), (Paces, "paces", told, True))
        self.is_same((paper.low, paper.high), told)
        return True

    def test_against_each_pair(self):
        seen = [0, 0]
        for rules in some_rules(401, 400):
            seen[self.right(rules)] += 1
        self.assertGreater(min(seen), 60)

    def test_rules_that_last_for_ever(self):
        for rules in some_rules(402, 60, 6):
            self.is_same(bool(paces(rules)), not longest(rules))

    def test_edges(self):
        self.is_same(paces([]), Paces(None, None))
        self.is_same(paces([Rule(48, 1)]), Paces((1, 48), None))
        self.is_same(paces([Rule(48, None, -96)]), Paces(None, (-2, 1)))
        self.is_same(paces([Rule(2, 3, 3), Rule(4, 6, 6)]), Paces((3, 2), (3, 2)))
        self.is_same(paces([Rule(1, 1), Rule(1, None, 0), Rule(2, 3)]), Clash(0, 1))
        self.is_same(paces([Rule(1, None, 0), Rule(2, 3), Rule(1, 1)]), Clash(1, 0))
        self.is_same(paces([Rule(6, 4), Rule(3, 2)] * 4), Paces((2, 3), None))
        self.is_same(paces([Rule(1, HUGE)]), Paces((HUGE, 1), None))

    def test_wrong_arguments(self):
        for call in (paces, simplest_pace):
            for value in NO_LISTS + (FIVE[0], Book(3, [])):
                self.refuses(BadRule("rules"), call, value)
                self.refuses(BadRule("rules"), call, rules=value)
            for value in NO_RULES:
                self.refuses(BadRule("rules"), call, [value])
                self.refuses(BadRule("rules"), call, [FIVE[0]] * 9 + [value])
            self.refuses(TooMany("rules", 8), call, [Rule(1, 1), Rule(1, None, 0)] * 5)
            self.refuses(TooMany("rules", 8), call, FIVE[:1] * 9)
            call(FIVE[:1] * 8)


class Simplest(Case):

    def test_against_looking_at_all(self):
        for rules in some_rules(411, 300):
            if paces(rules):
                told = Fraction(*simplest_pace(rules))
                self.is_same(simplest_pace(rules=tuple(rules)), pair(told))
                self.assertTrue(is_pace(triples(rules), told))
                for by in range(1, told.denominator + 1):
                    for number in range(-8 * by, 8 * by + 1):
                        if is_pace(triples(rules), Fraction(number, by)):
                            self.is_same(Fraction(number, by).denominator, told.denominator)
                            self.assertGreaterEqual(abs(Fraction(number, by)), abs(told))

    def test_some(self):
        for rules, right in (
                ([], (0, 1)), ([Rule(3, 7)], (3, 1)), ([Rule(3, -7)], (0, 1)), ([Rule(3, None, 7)], (0, 1)), ([Rule(3, None, -7)], (-3, 1)),
                ([Rule(3, 1, 2)], (1, 2)), ([Rule(3, -2, -1)], (-1, 2)), ([Rule(48, 1, 1)], (1, 48)), ([Rule(47, -1, -1), Rule(1, -1)], (-1, 47)),
                ([Rule(2, 5), Rule(3, None, 8)], (5, 2)), ([Rule(3, 7, 8)], (5, 2)), ([Rule(5, 7, 8)], (3, 2)), ([Rule(1, -5, 5)], (0, 1)),
                ([Rule(1, HUGE, HUGE)], (HUGE, 1)), ([Rule(7, 16), Rule(5, None, 12)], (7, 3)), ([Rule(1, 4, 9)], (4, 1)), ([Rule(1, -9,
                -4)], (-4, 1))):
            self.is_same(simplest_pace(rules), right)

    def test_the_least_by_of_a_round(self):
        for rules in some_rules(412, 60, 7):
            if paces(rules):
                pace = simplest_pace(rules)
                row = even_row(pace, 0, 48)
                self.assertTrue(keeps_all(row.gains, triples(rules)))


class Even(Case):

    def test_against_floors(self):
        chance = random.Random(421)
        for _ in range(100):
            pace = Fraction(chance.randint(-30, 30), chance.randint(1, 12))
            begin, days = chance.randint(-50, 50), chance.randint(1, 48)
            right = tuple((pace * (day + 1)).__floor__() - (pace * day).__floor__() for day in range(begin, begin + days))
            row = even_row(pair(pace), begin, days)
            self.is_same((type(row), row.gains), (Row, right))
            self.is_same(even_row(days=days, begin=begin, pace=list(pair(pace))), row)
            self.is_same(tuple(even_gain(pair(pace), day) for day in range(begin, begin + days)), right)
            self.is_same(even_gain(day=begin, pace=list(pair(pace))), right[0])

    def test_off_by_less_than_one(self):
        chance = random.Random(422)
        for _ in range(40):
            pace = Fraction(chance.randint(-30, 30), chance.randint(1, 9))
            row = even_row(pair(pace), chance.randint(-99, 99), 48)
            for length in range(1, 30):
                low = (length * pace).__floor__()
                found = [row.sum_of(begin, length) for begin in range(49 - length)]
                self.assertLessEqual(set(found), {low} if (length * pace).denominator == 1 else {low, low + 1})
                by = pace.denominator
                for first in range(0, len(found) - by + 1):
                    # Of so many begins as the by those with the greater sum are as many as the remainder.
                    self.is_same(sum(one == low + 1 for one in found[first:first + by]), length * pace.numerator % by)

    def test_comes_again(self):
        chance = random.Random(423)
        for _ in range(40):
            pace = Fraction(chance.randint(-30, 30), chance.randint(1, 12))
            for day in (0, 5, -7, 10 ** 20, -10 ** 20):
                by = pace.denominator
                self.is_same(even_row(pair(pace), day + by, by), even_row(pair(pace), day, by))
                self.is_same(even_row(pair(pace), day, by).total, pace.numerator)

    def test_keeps_rules(self):
        chance = random.Random(424)
        for rules in some_rules(425, 80):
            paper = paces(rules)
            for bound in paper.parts if paper else ():
                if bound is not None:
                    self.assertTrue(keeps_all(even_row(bound, chance.randint(-9, 9), 48).gains, triples(rules)))

    def test_edges(self):
        self.is_same(even_row((0, 1), -HUGE, 48), Row([0] * 48))
        self.is_same(even_row((HUGE, 1), HUGE, 1), Row([HUGE]))
        self.is_same(even_gain((1, HUGE), HUGE - 1), 1)
        self.is_same(even_gain((1, HUGE), HUGE), 0)
        self.is_same(even_gain((-1, HUGE), 0), -1)
        self.is_same(even_gain((-1, HUGE), -1), 0)
        self.is_same(even_gain((1, 2), -1), 1)

    def test_wrong_arguments(self):
        for value in NO_FRACTIONS:
            self.refuses(BadFraction("pace"), even_gain, value, 0)
            self.refuses(BadFraction("pace"), even_gain, value, None)
            self.refuses(BadFraction("pace"), even_row, value, None, 0)
            self.refuses(BadFraction("pace"), even_row, days=1, begin=0, pace=value)
        for value in NO_INTEGERS:
            self.refuses(BadNumber("day"), even_gain, (1, 2), value)
            self.refuses(BadNumber("begin"), even_row, (1, 2), value, 1)
            self.refuses(BadNumber("begin"), even_row, (1, 2), value, 0)
        for value in NO_INTEGERS + (0, -1, 49, 10 ** 70):
            self.refuses(BadNumber("days"), even_row, (1, 2), -5, value)


class Time(Case):

    def test_time(self):
        chance = random.Random(431)
        rules = tight_rules(chance, 48, 6, 5)
        begun = perf_counter()
        for _ in range(200):
            paces(rules), even_row((999983, 999979), -10 ** 60, 48)
            simplest_pace([Rule(47, 1, 1), Rule(48, None, 10 ** 6)])
        self.assertLess(perf_counter() - begun, 3)
