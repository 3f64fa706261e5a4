"""Points 2 and 12: rounds, their sums, sorts and rules, and the totals of rounds that keep rules."""

import random
from fractions import Fraction
from itertools import product
from time import perf_counter

from anyseven.errors import BadNumber, BadRound, BadRow, BadRule, TooMany
from anyseven.even import even_row
from anyseven.levelled import is_level, levelled, steady
from anyseven.moments import cut_finer, height_at
from anyseven.paces import paces, simplest_pace
from anyseven.papers import Denial
from anyseven.rounds import NoTotal, Round, Totals, totals
from anyseven.rows import Row
from anyseven.rules import Rule
from anyseven.sorts import sort_of, sums
from tests.anew import triples
from tests.anew_levels import pair
from tests.anew_paces import again, is_pace, round_keeps
from tests.support import NO_INTEGERS, NO_LISTS, NO_LISTS_OF_INTEGERS, Case
from tests.test_paces import some_rules
from tests.test_rules import NO_RULES

HUGE = 10 ** 5000
ABOUT = Round([2, 2, 3])
FIVE = [Rule(5, None, 12), Rule(7, 16)]


def some_rounds(seed, count, most_days=7, most=4):
    chance = random.Random(seed)
    for _ in range(count):
        yield [chance.randint(-most, most) for _ in range(chance.randint(1, most_days))]


class Rounds(Case):

    def test_attributes(self):
        for gains in list(some_rounds(501, 30)) + [[0], [HUGE, -1], [1] * 48]:
            for told in (Round(gains), Round(tuple(gains)), Round(gains=gains)):
                self.is_same((told.gains, told.days, told.total, len(told)), (tuple(gains), len(gains), sum(gains), len(gains)))

    def test_what_is_passed_is_copied(self):
        gains = [1, 2]
        told = Round(gains)
        gains.append(3)
        self.is_same(told.gains, (1, 2))

    def test_no_rounds(self):
        for value in NO_LISTS_OF_INTEGERS + NO_LISTS + ([], (), [1, 2.0], Row([1]), ABOUT, [1] * 49 + [None]):
            self.refuses(BadRound("gains"), Round, value)
            self.refuses(BadRound("gains"), Round, gains=value)
        for days in (49, 50, 100):
            self.refuses(TooMany("days", 48), Round, [1] * days)

    def test_equal(self):
        for gains in some_rounds(502, 30):
            told = Round(gains)
            self.is_same(told == Round(tuple(gains)), True)
            self.is_same(told != Round(gains), False)
            self.differs(told, [Round(gains + [0]), Round([gains[0] + 1] + gains[1:]), Row(gains), tuple(gains), gains, None, 0])
        self.differs(ABOUT, [ABOUT.turned(1), ABOUT.twice(), Round([2, 2])])

    def test_sums(self):
        for gains in some_rounds(503, 60):
            told = Round(gains)
            for begin in range(-9, 10):
                for length in range(1, 20):
                    self.is_same(told.sum_of(begin, length), sum(again(gains, begin, length)))
            self.is_same(told.sum_of(length=3, begin=-1), sum(again(gains, -1, 3)))

    def test_sums_of_long_stretches(self):
        for gains in some_rounds(504, 40):
            told, days = Round(gains), len(gains)
            for begin in (0, 3, -HUGE, HUGE, 10 ** 30 + 1):
                for times in (1, 7, 10 ** 40, HUGE):
                    for rest in range(days):
                        if times * days + rest > 0:
                            right = times * sum(gains) + sum(again(gains, begin % days, rest))
                            self.is_same(told.sum_of(begin, times * days + rest), right)

    def test_sorts(self):
        seen = {}
        for gains in list(some_rounds(505, 150, 5, 2)) + [[0], [0, 0], [1, -1], [3], [-3, -1]]:
            told = Round(gains)
            for length in list(range(1, 14)) + [10 ** 40, 10 ** 40 + 1]:
                found = [told.sum_of(begin, length) for begin in range(-20, 20)]
                word = "gains" if min(found) > 0 else "loses" if max(found) < 0 else "flat" if set(found) == {0} else "mixed"
                self.is_same(told.sort_of(length), word)
                seen[word] = seen.get(word, 0) + 1
        self.assertTrue(len(seen) == 4 and min(seen.values()) > 30, seen)
        self.is_same(ABOUT.sort_of(length=2), "gains")

    def test_sorts_of_level_rounds(self):
        for gains in some_rounds(506, 100):
            level = Round(levelled(Row(gains)).gains)
            for length in range(1, 30):
                self.assertIn(level.sort_of(length), ("flat", "mixed"))

    def test_rules(self):
        seen = [0, 0]
        chance = random.Random(507)
        for gains in some_rounds(508, 200):
            told = Round(gains)
            length = chance.randint(1, 48)
            found = [told.sum_of(begin, length) for begin in range(len(gains))]
            low, high = min(found) + chance.randint(-1, 1), max(found) + chance.randint(-1, 1)
            for rule in [Rule(length, low), Rule(length, None, high)] + ([Rule(length, low, high)] if low <= high else []):
                self.is_same(told.keeps(rule), round_keeps(gains, triples([rule])))
                self.is_same(told.keeps(rule=rule), told.keeps(rule))
                seen[told.keeps(rule)] += 1
        self.assertGreater(min(seen), 100)

    def test_turned(self):
        for gains in some_rounds(509, 40):
            told = Round(gains)
            for by in (0, 1, -1, 5, len(gains), -len(gains), 10 ** 30, -HUGE, HUGE + 1):
                turned = told.turned(by)
                self.is_same((type(turned), turned.gains), (Round, tuple(again(gains, by % len(gains), len(gains)))))
                self.is_same(told.turned(by=by), turned)
                self.is_same(turned.turned(-by), told)
                self.is_same(turned.total, told.total)
                for begin, length in ((0, 3), (-4, 20)):
                    self.is_same(turned.sum_of(begin, length), told.sum_of(begin + by, length))

    def test_twice(self):
        for gains in some_rounds(510, 40):
            twice = Round(gains).twice()
            self.is_same((type(twice), twice.gains), (Round, tuple(gains + gains)))
            for length in (1, 3, 30):
                self.is_same(twice.sort_of(length), Round(gains).sort_of(length))
                self.is_same(twice.sum_of(5, length), Round(gains).sum_of(5, length))
        self.is_same(Round([1] * 24).twice().days, 48)
        for days in (25, 48):
            self.refuses(TooMany("days", 48), Round([1] * days).twice)

    def test_rows(self):
        for gains in some_rounds(511, 40):
            told = Round(gains)
            for begin in (0, -3, 4, HUGE, -HUGE):
                for days in (1, 2, 7, 48):
                    row = told.row(begin, days)
                    self.is_same((type(row), row.gains), (Row, tuple(again(gains, begin % len(gains), days))))
                    self.is_same(told.row(days=days, begin=begin), row)
            self.is_same(told.row(0, len(gains)).gains, tuple(gains))
            for length in range(1, 10):
                self.is_same(told.row(-2, 48).sum_of(5, length), told.sum_of(3, length))

    def test_wrong_arguments(self):
        for value in NO_INTEGERS:
            self.refuses(BadNumber("begin"), ABOUT.sum_of, value, 1)
            self.refuses(BadNumber("begin"), ABOUT.sum_of, value, 0)
            self.refuses(BadNumber("by"), ABOUT.turned, value)
            self.refuses(BadNumber("begin"), ABOUT.row, value, 1)
            self.refuses(BadNumber("begin"), ABOUT.row, value, 49)
        for value in NO_INTEGERS + (0, -1, -HUGE):
            self.refuses(BadNumber("length"), ABOUT.sum_of, -5, value)
            self.refuses(BadNumber("length"), ABOUT.sort_of, value)
            self.refuses(BadNumber("length"), ABOUT.sort_of, length=value)
        for value in NO_INTEGERS + (0, -1, 49, HUGE):
            self.refuses(BadNumber("days"), ABOUT.row, 0, value)
        for value in NO_RULES + (ABOUT,):
            self.refuses(BadRule("rule"), ABOUT.keeps, value)

    def test_rounds_are_no_rows(self):
        for call in (
                lambda value: sums(value, 1), lambda value: sort_of(value, 1), is_level, steady, levelled,
                lambda value: height_at(value, (0, 1)), lambda value: cut_finer(value, 1)):
            self.refuses(BadRow("row"), call, ABOUT)
        self.refuses(BadRow("other"), Row([1, 2, 3]).joined, ABOUT)
        self.refuses(BadRow("other"), Row([1, 2, 3]).added, ABOUT)
        self.refuses(BadRow("gains"), Row, ABOUT)
        self.refuses(BadRow("row"), Rule(1, 0).keeps, ABOUT)


class AllTotals(Case):

    def right(self, days, rules):
        """The totals that the rules let be, each asked by itself; far ones alone tell that there is no bound."""
        paper, told = totals(days, rules), triples(rules)
        self.is_same(totals(rules=tuple(rules), days=days) == paper, True)
        right = [total for total in range(-200, 201) if is_pace(told, Fraction(total, days))]
        if not right:
            pairs = [
                (one, other) for one, (length, low, _) in enumerate(told) for other, (second, _, high) in enumerate(told)
                if low is not None and high is not None and not [
                    total for total in range(-200, 201) if low * days <= length * total and second * total <= high * days]]
            self.is_same((type(paper), paper.word, paper.parts, bool(paper)), (NoTotal, "nototal", pairs[0], False))
            self.is_same((paper.one, paper.other), pairs[0])
            self.assertTrue(isinstance(paper, Denial))
            return False
        bounds = (None if right[0] == -200 else right[0], None if right[-1] == 200 else right[-1])
        self.is_same((type(paper), paper.word, paper.parts, bool(paper)), (Totals, "totals", bounds, True))
        self.is_same((paper.low, paper.high), bounds)
        return True

    def test_against_each_total(self):
        seen = [0, 0]
        chance = random.Random(521)
        for rules in some_rules(522, 300):
            seen[self.right(chance.randint(1, 8), rules)] += 1
        self.assertGreater(min(seen), 60)

    def test_each_total_is_had(self):
        for rules in some_rules(523, 100, 6):
            for days in (1, 2, 5):
                paper = totals(days, rules)
                if paper and None not in paper.parts:
                    for total in range(paper.low, paper.high + 1):
                        gains = even_row(pair(Fraction(total, days)), 0, days).gains
                        self.is_same(sum(gains), total)
                        self.assertTrue(all(Round(gains).keeps(rule) for rule in rules))

    def test_no_round_beyond(self):
        for rules in some_rules(524, 25, 5):
            for days in (1, 2, 3):
                paper = totals(days, rules)
                for gains in product(range(-1, 7), repeat=days):
                    if all(Round(gains).keeps(rule) for rule in rules):
                        self.assertTrue(paper)
                        self.assertTrue(paper.low is None or paper.low <= sum(gains))
                        self.assertTrue(paper.high is None or sum(gains) <= paper.high)

    def test_the_fewest_days(self):
        for rules in some_rules(525, 100, 7):
            if paces(rules):
                by = simplest_pace(rules)[1]
                self.is_same([bool(totals(days, rules)) for days in range(1, by + 1)], [False] * (by - 1) + [True])

    def test_edges(self):
        self.is_same(totals(48, []), Totals(None, None))
        self.is_same(totals(1, [Rule(2, 1, 1)]), NoTotal(0, 0))
        self.is_same(totals(2, [Rule(2, 1, 1)]), Totals(1, 1))
        self.is_same(totals(48, [Rule(1, 3)]), Totals(144, None))
        self.is_same(totals(1, [Rule(48, None, -1)]), Totals(None, -1))
        self.is_same(totals(1, [Rule(48, 1)]), Totals(1, None))
        self.is_same(totals(3, [Rule(1, 1), Rule(1, None, 0), Rule(3, 1, 1)]), NoTotal(0, 1))
        self.is_same(totals(3, [Rule(9, None, 9), Rule(7, 16), Rule(5, None, 12), Rule(9, None, 9)]), NoTotal(1, 0))
        self.is_same(totals(47, [Rule(48, -1, 1)]), Totals(0, 0))
        self.is_same(totals(1, [Rule(1, HUGE)]), Totals(HUGE, None))

    def test_wrong_arguments(self):
        for value in NO_INTEGERS + (0, -1, 49, HUGE):
            self.refuses(BadNumber("days"), totals, value, FIVE)
            self.refuses(BadNumber("days"), totals, value, None)
        for value in NO_LISTS + (FIVE[0],):
            self.refuses(BadRule("rules"), totals, 48, value)
        for value in NO_RULES:
            self.refuses(BadRule("rules"), totals, 1, [FIVE[0]] * 9 + [value])
        self.refuses(TooMany("rules", 8), totals, 1, FIVE * 5)
        self.refuses(TooMany("rules", 8), totals, 1, [Rule(2, 1, 1)] * 9)


class Time(Case):

    def test_time(self):
        told = Round([999999, -999999] * 24)
        begun = perf_counter()
        for _ in range(100):
            told.sum_of(-10 ** 3000, 10 ** 3000), told.sort_of(10 ** 3000), told.keeps(Rule(47, 0)), told.turned(10 ** 3000)
            totals(48, [Rule(length, length, 10 ** 6) for length in range(41, 49)])
        self.assertLess(perf_counter() - begun, 3)
