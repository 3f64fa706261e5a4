"""Points 5, 6 and 7: how long rules last, two that clash, and which rules keep rows short."""

import random
from math import gcd
from time import perf_counter

from anyseven.books import Book
from anyseven.check_longest import shows_longest
from anyseven.errors import BadNumber, BadRule, TooMany
from anyseven.kept import kept
from anyseven.longest import ForEver, Longest, longest
from anyseven.pairs_of_lengths import pair_longest, pair_ring, pair_row
from anyseven.papers import Denial
from anyseven.quarrels import quarrels
from anyseven.rows import Row
from anyseven.rules import Rule, do_clash
from anyseven.shorteners import clashes, shorteners, without_each
from anyseven.signs import gaining, losing
from tests.anew import can_keep, is_low_ring, most_days, right_longest, ring_cost, tight_rules, triples
from tests.support import NO_INTEGERS, NO_LISTS, Case
from tests.test_rules import NO_RULES

PAIRS = [(one, other) for one in range(1, 25) for other in range(1, 25)]
THREE, FOUR, FIVE = Rule(3, None, -1), Rule(4, None, -1), Rule(5, 1)
NO_SUCH_LENGTHS = NO_INTEGERS + (0, -1, 25, 48, 10 ** 70)


def some_rules(seed, count, most_length=6, slack=2):
    chance = random.Random(seed)
    for _ in range(count):
        yield tight_rules(chance, chance.randint(1, most_length), chance.randint(0, 5), slack)


class Answers(Case):

    def right(self, rules):
        """The most days, None for ever; the paper is looked at."""
        paper = longest(rules)
        self.assertTrue(right_longest(rules, paper), (triples(rules), paper.parts))
        self.is_same(shows_longest(rules, paper), True)
        self.is_same(longest(tuple(rules)) == paper, True)
        if type(paper) is ForEver:
            self.is_same((paper.word, paper.parts, bool(paper)), ("forever", (paper.pace,), False))
            self.assertTrue(isinstance(paper, Denial))
            return None
        self.assertIs(type(paper), Longest)
        self.is_same((paper.word, paper.parts, bool(paper)), ("longest", (paper.days, paper.row, paper.ring), True))
        for number in () if paper.row is None else paper.row.heights:
            self.assertLess(abs(number), 10 ** 60)
        return paper.days


class MostDays(Answers):

    def test_against_trying_each(self):
        seen = {}
        for rules in some_rules(61, 250):
            days = self.right(rules)
            self.is_same(days, most_days(triples(rules)))
            seen[days] = seen.get(days, 0) + 1
        self.assertTrue(seen[None] > 60 and seen[0] > 3 and sum(seen.get(days, 0) for days in range(1, 9)) > 40, seen)

    def test_what_lasts_fewer_days(self):
        for rules in some_rules(62, 40, 8):
            days = self.right(rules)
            answers = [bool(kept(Book(many, rules))) for many in range(1, 20)]
            self.assertEqual(answers, [days is None or many <= days for many in range(1, 20)])

    def test_no_rules(self):
        for rules in ([], ()):
            self.is_same(self.right(rules), None)
            number, by = longest(rules).pace
            self.is_same((by > 0, gcd(number, by)), (True, 1))

    def test_a_most_of_no_day(self):
        for rules in ([Rule(1, 1), Rule(1, None, 0)], [Rule(1, None, -7), Rule(2, 1), Rule(1, -6)],
                      [Rule(1, 3, 3), Rule(1, 5, 5), Rule(24, 1, 1)]):
            self.is_same(self.right(rules), 0)
            self.is_same(longest(rules).row, None)
            self.assertTrue(is_low_ring(1, triples(rules), longest(rules).ring))

    def test_equal_lengths_and_one_alone(self):
        for length in range(1, 25):
            self.is_same(self.right([Rule(length, 1), Rule(length, None, 0)]), length - 1)
            for low, high in ((1, None), (None, -1), (7, 7), (-2, 9)):
                self.is_same(self.right([Rule(length, low, high)]), None)
            self.is_same(self.right([Rule(length, 1), Rule(length, None, 1)]), None)

    def test_paces(self):
        for rules, low, high in (
                ([Rule(5, None, 12), Rule(7, 16)], (16, 7), (12, 5)), ([Rule(3, -4)], (-4, 3), None),
                ([Rule(2, None, -3)], None, (-3, 2)), ([Rule(2, 1, 1)], (1, 2), (1, 2)),
                ([Rule(4, 2), Rule(6, None, 3)], (1, 2), (1, 2)),
                ([Rule(1, -5), Rule(24, 0, 48), Rule(2, None, 3)], (0, 1), (3, 2)), ([Rule(6, 0, 0)], (0, 1), (0, 1)),
                ([THREE, FOUR], None, (-1, 3)), ([Rule(9, -6, -6)], (-2, 3), (-2, 3))):
            self.is_same(self.right(rules), None)
            number, by = longest(rules).pace
            self.assertTrue(low is None or low[0] * by <= number * low[1], rules)
            self.assertTrue(high is None or number * high[1] <= high[0] * by, rules)

    def test_for_ever_just_if_no_two_clash(self):
        chance = random.Random(63)
        seen = [0, 0]
        for _ in range(200):
            rules = tight_rules(chance, 24, 5, chance.choice((2, 40)))
            told = triples(rules)
            clash = any(
                low is not None and high is not None and low * other > high * one
                for one, low, _ in told for other, _, high in told)
            self.is_same(self.right(rules) is None, not clash)
            seen[clash] += 1
        self.assertTrue(min(seen) > 20, seen)

    def test_three_that_last_fewer_days_than_two(self):
        self.is_same([self.right(rules) for rules in ([THREE, FIVE], [FOUR, FIVE], [THREE, FOUR, FIVE])], [6, 7, 5])
        self.is_same(self.right([THREE, FOUR]), None)
        self.is_same(quarrels(Book(6, [THREE, FOUR, FIVE])), ((0, 1, 2),))

    def test_all_lengths_taken_so_many_times(self):
        for rules in some_rules(64, 60, 5):
            days = self.right(rules)
            for times in (2, 3, 4):
                longer = [Rule(times * rule.length, rule.low, rule.high) for rule in rules]
                self.is_same(self.right(longer), None if days is None else times * (days + 1) - 1)

    def test_turned_times_and_drawn_together(self):
        for rules in some_rules(65, 80):
            days = self.right(rules)
            self.is_same(self.right([rule.turned() for rule in rules]), days)
            self.is_same(self.right([rule.times(12) for rule in rules]), days)
            book = Book(48, rules)
            if not any(low > high for _, low, high in self.drawn(rules)):
                self.is_same(self.right(book.together().rules), days)

    def drawn(self, rules):
        told = triples(rules)
        for length in {length for length, _, _ in told}:
            lows = [low for one, low, _ in told if one == length and low is not None]
            highs = [high for one, _, high in told if one == length and high is not None]
            if lows and highs:
                yield length, max(lows), min(highs)

    def test_no_longer_than_two_that_clash(self):
        for rules in some_rules(66, 100):
            days, found = self.right(rules), clashes(rules)
            if found:
                self.assertLessEqual(days, min(triple[2] for triple in found))
            for number in range(len(rules)):
                others = self.right(rules[:number] + rules[number + 1:])
                self.assertTrue(others is None or (days is not None and others >= days))


class Long(Answers):

    def test_times(self):
        chance = random.Random(67)
        lists = [tight_rules(chance, 24, 8, slack) for slack in (1, 9, 10 ** 6 - 1) for _ in range(6)]
        lists += [[Rule(length, length * 10 ** 4 - 1, length * 10 ** 4 + 1) for length in range(17, 25)]]
        wide = [Rule(22, -10 ** 6), Rule(21, None, 10 ** 6)] + [Rule(1, -10 ** 6, 10 ** 6)] * 4
        lists += [[Rule(24, 1), Rule(23, None, -1)] + wide]
        for rules in lists:
            for call in (longest, clashes, without_each, shorteners):
                begun = perf_counter()
                answer = call(rules)
                self.assertLess(perf_counter() - begun, 3)
                self.is_same(call(rules), answer)
            self.right(rules)
        self.is_same(longest(lists[-1]).days, 45)

    def test_lengths_24_and_23(self):
        for low, high in ((1, -1), (10 ** 6, 10 ** 5), (-22, -23), (10 ** 9 - 1, 1 - 10 ** 9)):
            self.is_same(self.right([Rule(24, low), Rule(23, None, high)]), 45)


class Wrong(Case):

    def test_what_is_no_list_of_rules(self):
        for call in (longest, clashes, without_each, shorteners):
            for value in NO_LISTS + (FIVE, Book(3, []), Book):
                self.refuses(BadRule("rules"), call, value)
            for value in NO_RULES + (Book(1, []),):
                self.refuses(BadRule("rules"), call, [value])
                self.refuses(BadRule("rules"), call, (FIVE, value))
                self.refuses(BadRule("rules"), call, rules=[FIVE] * 9 + [value])
                self.refuses(BadRule("rules"), call, [Rule(25, 1), value])

    def test_too_many(self):
        for call in (longest, clashes, without_each, shorteners):
            for rules in ([FIVE] * 9, (FIVE,) * 20, [Rule(25, 1)] + [FIVE] * 8):
                self.refuses(TooMany("rules", 8), call, rules)
            for length in (25, 26, 48):
                for low, high in ((1, None), (None, -1)):
                    self.refuses(TooMany("length", 24), call, [Rule(length, low, high)])
                    self.refuses(TooMany("length", 24), call, (FIVE, Rule(length, low, high)))
                    self.refuses(TooMany("length", 24), call, [FIVE] * 7 + [Rule(length, low, high)])

    def test_as_many_as_can_be(self):
        rules = [Rule(24, 1)] * 4 + [Rule(24, None, 0)] * 4
        self.is_same(longest(rules).days, 23)
        self.is_same(longest(rules=rules).days, 23)
        self.is_same(len(clashes(rules)), 16)
        self.is_same(without_each(rules), (23,) * 8)
        self.is_same(shorteners(rules), ())


class Pairs(Case):

    def test_how_long_two_last(self):
        for one, other in PAIRS:
            days = pair_longest(one, other)
            self.is_same(days, one + other - gcd(one, other) - 1)
            self.is_same(pair_longest(other=other, one=one), days)
            self.is_same(pair_longest(other, one), days)
        self.assertEqual(max(pair_longest(*pair) for pair in PAIRS), 45)
        for one, other, days in (
                (11, 7, 16), (4, 6, 7), (5, 5, 4), (1, 1, 0), (1, 2, 1), (1, 24, 23), (24, 24, 23), (8, 24, 23), (3, 12, 11)):
            self.is_same(pair_longest(one, other), days)

    def test_whatever_their_bounds_are(self):
        chance = random.Random(68)
        for one, other in chance.sample(PAIRS, 60) + [(1, 1), (24, 24), (12, 24), (24, 23)]:
            high = chance.randint(-30, 30)
            low = high * one // other + chance.choice((1, 1, 2, 50))
            rules = [Rule(one, low), Rule(other, None, high)]
            self.assertTrue(do_clash(*rules))
            days = pair_longest(one, other)
            self.is_same(longest(rules).days, days)
            self.assertFalse(can_keep(days + 1, triples(rules)))
            self.assertTrue(days == 0 or can_keep(days, triples(rules)))
            self.is_same(clashes(rules), ((0, 1, days),))
            self.is_same(clashes(rules[::-1]), ((1, 0, days),))

    def test_rings(self):
        for one, other in PAIRS:
            places, divisor = pair_ring(one, other), gcd(one, other)
            self.assertIs(type(places), tuple)
            days = one + other - divisor
            self.is_same((places[0], places[-1]), (0, 0))
            self.assertEqual(sorted(places[1:]), list(range(0, days + 1, divisor)))
            for place, end in zip(places, places[1:]):
                self.assertEqual(end - place, other if place < one else -one)
            steps = [(place, 1, 1) if place < one else (place, 0, -1) for place in places[:-1]]
            self.assertEqual([step[2] for step in steps].count(1), one // divisor)
            self.assertEqual([step[2] for step in steps].count(-1), other // divisor)
            cost = ring_cost(days, [(one, 5, None), (other, None, -3)], steps)
            self.assertEqual(cost, (one * -3 - other * 5) // divisor)
            self.is_same(pair_ring(other=other, one=one), places)

    def test_rows(self):
        for one, other in PAIRS:
            row = pair_row(one, other)
            days = one + other - gcd(one, other) - 1
            if days == 0:
                self.is_same((one, other, row), (1, 1, None))
                continue
            self.assertIs(type(row), Row)
            self.assertEqual(len(row.gains), days)
            for length, sign in ((one, 1), (other, -1)):
                sums = [sum(row.gains[begin:begin + length]) for begin in range(days - length + 1)]
                self.assertTrue(all(sign * total > 0 for total in sums), (one, other, row.gains))
            self.is_same(pair_row(other=other, one=one), row)

    def test_rows_of_one_length(self):
        for length in range(2, 25):
            self.is_same(pair_row(length, length).days, length - 1)
            self.is_same(pair_ring(length, length), (0, length, 0))

    def test_what_is_no_length(self):
        for call in (pair_longest, pair_ring, pair_row):
            for value in NO_SUCH_LENGTHS:
                self.refuses(BadNumber("one"), call, value, 3)
                self.refuses(BadNumber("other"), call, 3, value)
                self.refuses(BadNumber("one"), call, value, value)
                self.refuses(BadNumber("one"), call, other=0, one=value)
                self.refuses(BadNumber("other"), call, other=value, one=24)


class Shorteners(Case):

    def test_clashes(self):
        for rules in some_rules(69, 200):
            told, right = triples(rules), []
            for one, (length, low, _) in enumerate(told):
                for other, (second, _, high) in enumerate(told):
                    if low is not None and high is not None and low * second > high * length:
                        right.append((one, other, length + second - gcd(length, second) - 1))
            self.is_same(clashes(rules), tuple(sorted(right)))
            self.is_same(clashes(rules=tuple(rules)), tuple(right))

    def test_at_the_edge(self):
        for low, clash in ((2, False), (3, True), (4, True)):
            self.is_same(clashes([Rule(4, low), Rule(6, None, 3)]), ((0, 1, 7),) if clash else ())
            self.is_same(clashes([Rule(6, None, 3), Rule(4, low)]), ((1, 0, 7),) if clash else ())
        self.is_same(clashes([Rule(2, 3, 4), Rule(3, -5, 4)]), ((0, 1, 3),))
        self.is_same(clashes([Rule(2, 3, 4), Rule(3, 7, 9)]), ((1, 0, 3),))
        rules = [Rule(2, -3), Rule(2, None, -4), Rule(2, -5), Rule(2, None, -6)]
        self.is_same(clashes(rules), ((0, 1, 1), (0, 3, 1), (2, 3, 1)))
        self.is_same(clashes([]), ())

    def test_without_each(self):
        for rules in some_rules(70, 120):
            told = triples(rules)
            right = [most_days(told[:number] + told[number + 1:]) for number in range(len(told))]
            self.is_same(without_each(rules), tuple(right))
            self.is_same(without_each(rules=tuple(rules)), tuple(right))
        self.is_same(without_each([]), ())
        self.is_same(without_each([FIVE]), (None,))
        self.is_same(without_each([Rule(1, 1), Rule(1, None, 0), Rule(1, 1)]), (0, None, 0))

    def test_shorteners(self):
        seen = {}
        for rules in some_rules(71, 120):
            told = triples(rules)
            most, each = most_days(told), [most_days(told[:at] + told[at + 1:]) for at in range(len(told))]
            right = () if most is None else tuple(at for at, days in enumerate(each) if days is None or days > most)
            self.is_same(shorteners(rules), right)
            self.is_same(shorteners(rules=tuple(rules)), right)
            seen[len(right)] = seen.get(len(right), 0) + 1
        self.assertTrue(seen[1] > 2 and seen[2] > 10, seen)

    def test_some_shorteners(self):
        self.is_same(shorteners([]), ())
        self.is_same(shorteners([THREE, FOUR]), ())
        self.is_same(shorteners([THREE, FOUR, FIVE]), (0, 1, 2))
        self.is_same(shorteners([THREE, FIVE, THREE, FIVE]), ())
        self.is_same(shorteners([Rule(1, 1), Rule(1, None, 0)]), (0, 1))
        self.is_same(shorteners(gaining([11]) + losing([7])), (0, 1))


class Clash(Case):

    def test_clash(self):
        for low, high, clash in (
                (1, -1, True), (1, 0, True), (0, 0, False), (-2, -3, False), (-1, -3, True), (2, 3, False), (3, 4, True)):
            # Two days bring low at least, three days high at most.
            self.is_same(do_clash(Rule(2, low), Rule(3, None, high)), clash)
            self.is_same(do_clash(Rule(2, low, 9), Rule(3, -9, high)), clash)
            self.is_same(do_clash(Rule(3, None, high), Rule(2, low)), False)
        self.is_same(do_clash(Rule(2, None, 5), Rule(2, None, -5)), False)
        self.is_same(do_clash(Rule(2, 5), Rule(2, -5)), False)
        self.is_same(do_clash(Rule(2, 5, 5), Rule(2, 5, 5)), False)
