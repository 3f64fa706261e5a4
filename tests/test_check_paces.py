"""Points 2, 3, 5, 7 and 12: which papers of paces, totals and settled sums are right."""

import random
from time import perf_counter

from anyseven.check_longest import shows_longest
from anyseven.check_paces import shows_paces, shows_settled, shows_totals
from anyseven.errors import BadNumber, BadRule, Impossible, TooMany
from anyseven.kept import Kept, Ring
from anyseven.longest import ForEver, longest
from anyseven.paces import Clash, Paces, paces, simplest_pace
from anyseven.rounds import NoTotal, Totals, totals
from anyseven.rows import Row
from anyseven.rules import Rule
from anyseven.settled import NoSum, Settled, settled, settled_from
from anyseven.shorteners import clashes
from tests import bends
from tests.anew import triples
from tests.anew_paces import clashing, right_paces, right_settled, right_totals
from tests.bends import bent_papers
from tests.support import NO_INTEGERS, NO_LISTS, Case, few
from tests.test_paces import some_rules
from tests.test_rules import NO_RULES

FIVE = [Rule(5, None, 12), Rule(7, 16)]
SHORT = [Rule(3, None, 2), Rule(2, 1)]
CLASHING = [Rule(3, None, 0), Rule(2, 1), Rule(1, 5, 6)]
OTHER_PAPERS = (
    Paces(None, None), Paces((0, 1), (0, 1)), Clash(0, 0), Clash(0, 1), Clash(1, 0), Clash(None, None), Totals(None, None),
    Totals(0, 0), NoTotal(0, 0), NoTotal(0, 1), NoTotal(1, 0), Settled(None, None, None, None), NoSum(None), NoSum(1), NoSum(2),
    Settled(0, (), (), Row([0])), Kept(Row([1])), Ring([]), ForEver((0, 1)))


class ShowsPaces(Case):

    def shows(self, rules, value):
        shown = shows_paces(rules, value)
        self.is_same(shown, right_paces(triples(rules), value))
        self.is_same(shows_paces(value=value, rules=tuple(rules)), shown)
        return shown

    def test_what_is_returned_is_right(self):
        for rules in some_rules(701, 200):
            self.is_same(self.shows(rules, paces(rules)), True)

    def test_bent_papers(self):
        chance = random.Random(702)
        count = [0, 0]
        for rules in list(some_rules(703, 60)) + [[], FIVE, CLASHING, [Rule(3, -4)], [Rule(2, None, -3)], [Rule(48, 7, 7)]]:
            for other in few(bent_papers(paces(rules)), chance, 300):
                count[self.shows(rules, other)] += 1
        self.assertTrue(count[0] > 5000 and count[1] > 20, count)

    def test_all_pairs_of_rules(self):
        count = [0, 0]
        for rules in some_rules(704, 80):
            for one in range(-1, 6):
                for other in range(-1, 6):
                    count[self.shows(rules, Clash(one, other))] += 1
        self.assertGreater(min(count), 20)

    def test_any_clash(self):
        self.is_same([self.shows(CLASHING, Clash(*pair)) for pair in ((1, 0), (2, 0), (0, 1), (2, 1), (1, 2), (2, 2))], [
            True, True, False, False, False, False])
        self.is_same([self.shows(CLASHING, Paces(*pair)) for pair in ((None, None), ((5, 1), (0, 1)), ((0, 1), (0, 1)))], [False] * 3)
        self.is_same(self.shows([Rule(1, 1, 1), Rule(1, 2, 2)], Clash(1, 0)), True)
        self.is_same(self.shows([Rule(1, 1), Rule(1, None, 0), Rule(1, 0)], Clash(2, 1)), False)

    def test_each_part(self):
        for low, high, shown in (
                ((16, 7), (12, 5), True), ([16, 7], [12, 5], True), ((16, 7), (24, 10), False), ((32, 14), (12, 5), False),
                ((12, 5), (16, 7), False), ((16, 7), None, False), (None, (12, 5), False), ((16, 7), (12, 5, 1), False),
                ((16.0, 7), (12, 5), False), ((16, 7), "12 5", False), ((16, 7), (-12, -5), False)):
            self.is_same(self.shows(FIVE, Paces(low, high)), shown)
        self.is_same(self.shows([Rule(1, 1, 1)], Paces((1, 1), (1, 1))), True)
        self.is_same(self.shows([Rule(1, 1, 1)], Paces((True, 1), (1, 1))), False)
        self.is_same(self.shows([Rule(1, 0, 1)], Paces((False, 1), (1, True))), False)
        self.is_same(self.shows([], Paces(None, None)), True)
        self.is_same(self.shows([], Paces(None, (0, 1))), False)
        self.is_same(self.shows([], Clash(0, 0)), False)

    def test_other_papers(self):
        for rules in ([], FIVE, CLASHING):
            for value in OTHER_PAPERS + bends.alike(paces(rules)):
                self.shows(rules, value)

    def test_wrong_arguments(self):
        for value in NO_LISTS + (FIVE[0],):
            self.refuses(BadRule("rules"), shows_paces, value, Paces(None, None))
        for value in NO_RULES:
            self.refuses(BadRule("rules"), shows_paces, [FIVE[0]] * 9 + [value], None)
        self.refuses(TooMany("rules", 8), shows_paces, FIVE * 5, None)
        self.refuses(TooMany("rules", 8), shows_paces, value=Clash(1, 0), rules=[Rule(48, 1), Rule(1, None, 0)] * 5)


class ShowsTotals(Case):

    def shows(self, days, rules, value):
        shown = shows_totals(days, rules, value)
        self.is_same(shown, right_totals(days, triples(rules), value))
        self.is_same(shows_totals(value=value, rules=tuple(rules), days=days), shown)
        return shown

    def test_what_is_returned_is_right(self):
        for rules in some_rules(711, 80):
            for days in (1, 2, 3, 7, 24, 47, 48):
                self.is_same(self.shows(days, rules, totals(days, rules)), True)

    def test_bent_papers(self):
        chance = random.Random(712)
        count = [0, 0]
        for rules in list(some_rules(713, 60)) + [[], FIVE, CLASHING, [Rule(3, -4)], [Rule(2, 1, 1)]]:
            for days in (1, 2, chance.randint(3, 48)):
                for other in few(bent_papers(totals(days, rules)), chance, 200):
                    count[self.shows(days, rules, other)] += 1
        self.assertTrue(count[0] > 5000 and count[1] > 20, count)

    def test_all_pairs_of_rules(self):
        count = [0, 0]
        for rules in some_rules(714, 60):
            for days in (1, 2, 5):
                for one in range(-1, 5):
                    for other in range(-1, 5):
                        count[self.shows(days, rules, NoTotal(one, other))] += 1
        self.assertGreater(min(count), 20)

    def test_papers_of_other_days(self):
        count = [0, 0]
        for rules in some_rules(715, 40):
            papers = [totals(days, rules) for days in range(1, 9)]
            for days in range(1, 9):
                for paper in papers:
                    count[self.shows(days, rules, paper)] += 1
        self.assertGreater(min(count), 100)

    def test_each_part(self):
        self.is_same([self.shows(6, FIVE, Totals(*pair)) for pair in ((14, 14), (13, 14), (14, 15), (14, None), (14.0, 14), ("14", 14))], [
            True, False, False, False, False, False])
        self.is_same([self.shows(1, [Rule(2, 1, 1)], NoTotal(*pair)) for pair in ((0, 0), (False, 0), (0, False), (0, 1), (-1, 0))], [
            True, False, False, False, False])
        self.is_same([self.shows(3, [Rule(2, 1, 3)], Totals(*pair)) for pair in ((2, 4), (True, 4), (1, 4), (4, 2))], [True] + [False] * 3)
        self.is_same([self.shows(1, [Rule(1, 0, 1)], Totals(*pair)) for pair in ((0, 1), (False, 1), (0, True))], [True, False, False])
        # What tells no total is not what tells two.
        for pair in ((0, 0), (1, 0), (0, 1), (1, 1)):
            self.is_same(self.shows(1, [Rule(2, 1, 1)], Totals(*pair)), False)
            self.is_same(self.shows(3, [Rule(1, None, 0), Rule(1, 1)], Totals(*pair)), False)
        self.is_same([self.shows(4, [], value) for value in (Totals(None, None), NoTotal(0, 0), Totals(0, None))], [True, False, False])

    def test_other_papers(self):
        for rules in ([], FIVE, CLASHING):
            for days in (1, 6, 48):
                for value in OTHER_PAPERS + bends.alike(totals(days, rules)):
                    self.shows(days, rules, value)

    def test_wrong_arguments(self):
        for value in NO_INTEGERS + (0, -1, 49, 10 ** 70):
            self.refuses(BadNumber("days"), shows_totals, value, FIVE, Totals(14, 14))
            self.refuses(BadNumber("days"), shows_totals, value, None, None)
        for value in NO_LISTS + (FIVE[0],):
            self.refuses(BadRule("rules"), shows_totals, 48, value, Totals(None, None))
        for value in NO_RULES:
            self.refuses(BadRule("rules"), shows_totals, 1, [FIVE[0]] * 9 + [value], None)
        self.refuses(TooMany("rules", 8), shows_totals, 1, FIVE * 5, None)


class ShowsSettled(Case):

    def shows(self, rules, length, value):
        shown = shows_settled(rules, length, value)
        self.is_same(shown, right_settled(triples(rules), length, value))
        self.is_same(shows_settled(value=value, length=length, rules=tuple(rules)), shown)
        return shown

    def kept_rules(self, seed, count, most_length=12):
        return [rules for rules in some_rules(seed, count, most_length) if not clashing(triples(rules))]

    def test_what_is_returned_is_right(self):
        chance = random.Random(721)
        for rules in self.kept_rules(722, 120) + self.kept_rules(723, 25, 24):
            for length in (1, 2, chance.randint(3, 47), 48):
                self.is_same(self.shows(rules, length, settled(rules, length)), True)

    def test_bent_papers(self):
        chance = random.Random(724)
        count = [0, 0]
        for rules in self.kept_rules(725, 25, 5) + [[], FIVE, SHORT, [Rule(3, 5)], [Rule(4, None, 1), Rule(2, -3)], [Rule(1, 0, 1)]]:
            for length in (1, 2, chance.randint(3, 9)):
                for other in few(bent_papers(settled(rules, length)), chance, 150):
                    count[self.shows(rules, length, other)] += 1
        self.assertTrue(count[0] > 4000 and count[1] > 20, count)

    def test_papers_of_other_lengths(self):
        count = [0, 0]
        for rules in self.kept_rules(726, 25, 4):
            papers = [settled(rules, length) for length in range(1, 6)]
            for length in range(1, 6):
                for paper in papers:
                    count[self.shows(rules, length, paper)] += 1
        self.assertGreater(min(count), 50)

    def test_each_part(self):
        row = Row([1, 0, 1, 0])
        for most, forth, back, some, shown in (
                (1, [1, 0], [0, 1], row, True), (1, (1, 0), (0, 1), Row([1, 0, 1]), False), (2, (3, 0), (0, 4), Row([1, 1, 0, 1]), False),
                (1, (1, 0), (0, 1), Row([1, 0, 1, 0, 1, 0]), True), (1, (1, 0), (0, 1), Row([0, 0, 1, 0]), False),
                (True, (1, 0), (0, 1), row, False), (1, (True, 0), (0, 1), row, False), (1, (1, False), (0, 1), row, False),
                (1, (1,), (0, 1), row, False), (1, (1, 0, 0), (0, 1), row, False), (1, (1, 0), (0, 1), None, False),
                (1, (1, 0), (0, 1), row.gains, False), (0, (1, 0), (0, 1), row, False), (None, (1, 0), (0, 1), row, False),
                (2, (2, 0), (0, 2), Row([2, 0, 2, 0]), False), (1, (0, 1), (1, 0), row, False), (1, (1, 1), (0, 2), row, False),
                (1, (-1, 0), (0, -2), row, False), (1, None, None, row, False), (1, {0: 1}, (0, 1), row, False)):
            self.is_same(self.shows(SHORT, 1, Settled(most, forth, back, some)), shown)
        # The row must have the stretch, not only keep the rules.
        self.is_same(self.shows(SHORT, 4, Settled(3, (2, 0), (0, 1), Row([1, 0, 1, 0, 1, 0]))), False)
        self.is_same(self.shows(SHORT, 4, Settled(3, (2, 0), (0, 1), Row([1, 1, 0, 1]))), True)
        # Rules that say nothing by their bounds take no steps that are not told.
        self.is_same(self.shows([Rule(1, None, 0)], 1, Settled(0, (1,), (0,), Row([0]))), True)
        self.is_same(self.shows([Rule(1, None, 0)], 1, Settled(0, (2,), (1,), Row([0]))), False)
        self.is_same(self.shows([Rule(1, 0, 0)], 1, Settled(0, (2,), (1,), Row([0]))), True)

    def test_rows_long_enough(self):
        for rules in self.kept_rules(727, 60, 5):
            paper = settled(rules, 2)
            if type(paper) is Settled:
                for days in range(2, paper.row.days):
                    for begin in range(paper.row.days - days + 1):
                        part = paper.row.part(begin, days)
                        shown = self.shows(rules, 2, Settled(paper.most, paper.forth, paper.back, part))
                        self.assertTrue(days >= settled_from(rules) or not shown)

    def test_divisors(self):
        rules = [Rule(12, None, 9), Rule(24, 3)]
        self.is_same([d for d in range(-2, 50) if self.shows(rules, 8, NoSum(d))], [3, 6, 12])
        self.is_same([d for d in range(-2, 50) if self.shows(rules, 5, NoSum(d))], [2, 3, 4, 6, 12])
        self.is_same([d for d in range(-2, 50) if self.shows(rules, 36, NoSum(d))], [])
        self.is_same([self.shows(rules, 5, NoSum(d)) for d in (None, True, 2.0, "2", (2,), [])], [False] * 6)
        highs = [Rule(4, None, 9), Rule(6, None, 9)]
        self.is_same([self.shows(highs, 5, NoSum(d)) for d in (None, 1, 2, 3)], [True, False, True, False])
        self.is_same([self.shows(highs, 2, NoSum(d)) for d in (None, 1, 2)], [True, False, False])
        self.is_same([self.shows(highs, 10, NoSum(d)) for d in (None, 1, 2)], [False, False, False])
        lows = [Rule(4, 9), Rule(6, 9)]
        self.is_same([self.shows(lows, 4, NoSum(d)) for d in (None, 1, 2)], [True, False, False])
        self.is_same([self.shows(lows, 5, NoSum(d)) for d in (None, 1, 2)], [True, False, True])
        self.is_same([self.shows([], 5, NoSum(d)) for d in (None, 0, 1, 2, 7)], [True, False, False, False, False])

    def test_rules_that_clash(self):
        free = CLASHING[:1]
        for length in (1, 2, 3):
            for value in OTHER_PAPERS + (settled(free, length), NoSum(2), NoSum(None)):
                self.is_same(self.shows(CLASHING, length, value), False)
            self.refuses(Impossible(Clash(1, 0)), settled, CLASHING, length)
        self.is_same(self.shows([Rule(4, 4), Rule(2, None, 0)], 1, NoSum(2)), False)

    def test_other_papers(self):
        for rules, length in (([], 1), (FIVE, 2), (SHORT, 1), ([Rule(3, None, 5)], 4)):
            for value in OTHER_PAPERS + bends.alike(settled(rules, length)):
                self.shows(rules, length, value)

    def test_wrong_arguments(self):
        call, right = shows_settled, settled(SHORT, 1)
        for value in NO_LISTS + (SHORT[0],):
            self.refuses(BadRule("rules"), call, value, 1, right)
            self.refuses(BadRule("rules"), call, value, None, None)
        for value in NO_RULES:
            self.refuses(BadRule("rules"), call, [Rule(25, 1)] * 9 + [value], 0, right)
        for value in NO_INTEGERS + (0, -1, 49, 10 ** 70):
            self.refuses(BadNumber("length"), call, SHORT, value, right)
            self.refuses(BadNumber("length"), call, CLASHING, value, right)
            self.refuses(BadNumber("length"), call, [Rule(25, 1)] * 9, value, None)
        self.refuses(TooMany("rules", 8), call, [Rule(25, 1), Rule(1, None, 0)] * 5, 1, right)
        self.refuses(TooMany("length", 24), call, [Rule(25, 1), Rule(1, None, 0)], 1, right)


class HeldTogether(Case):
    """Points 5, 7 and 12: rules that last for ever have a pace, and no two of them clash."""

    def test_for_ever(self):
        seen = [0, 0]
        for rules in some_rules(731, 150, 10):
            paper = paces(rules)
            seen[bool(paper)] += 1
            self.is_same(type(longest(rules)) is ForEver, bool(paper))
            self.is_same(clashes(rules) == (), bool(paper))
            pairs = [(one, other) for one, other, _ in clashes(rules)]
            for one in range(len(rules)):
                for other in range(len(rules)):
                    self.is_same(shows_paces(rules, Clash(one, other)), (one, other) in pairs)
            if paper:
                self.assertTrue(shows_longest(rules, ForEver(simplest_pace(rules))))
                for pace in (paper.low, paper.high):
                    self.assertTrue(pace is None or shows_longest(rules, ForEver(pace)))
                by = simplest_pace(rules)[1]
                self.assertTrue(shows_totals(by, rules, totals(by, rules)) and totals(by, rules))
        self.assertGreater(min(seen), 20)


class Time(Case):

    def test_time(self):
        rules = [Rule(length, -length * 1000, length * 1001 + length % 7) for length in range(17, 25)]
        papers = [settled(rules, length) for length in range(1, 49)]
        begun = perf_counter()
        for length, paper in enumerate(papers, 1):
            self.is_same(shows_settled(rules, length, paper), True)
            shows_paces(rules, paces(rules)), shows_totals(48, rules, totals(48, rules))
        self.assertLess(perf_counter() - begun, 3)
