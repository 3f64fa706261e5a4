"""Points 2, 3 and 7: which papers of longest rows are right."""

import random
from time import perf_counter

from anyseven.books import Book
from anyseven.check_longest import shows_longest
from anyseven.errors import BadRule, TooMany
from anyseven.kept import Kept, Ring, kept
from anyseven.longest import ForEver, Longest, longest
from anyseven.pairs_of_lengths import pair_ring, pair_row
from anyseven.rows import Row
from anyseven.rules import Rule
from tests.anew import right_longest, tight_rules, triples
from tests.bends import STRANGE, alike, bent, bent_fraction, bent_numbers, bent_row, bent_steps
from tests.support import NO_LISTS, Case
from tests.test_longest import PAIRS, some_rules
from tests.test_rules import NO_RULES

THREE, FOUR, FIVE = Rule(3, None, -1), Rule(4, None, -1), Rule(5, 1)
RULES = [THREE, FOUR, FIVE]
RING = [(0, 0, 1), (3, 0, 1), (6, 2, -1), (1, 1, 1), (5, 2, -1)]
ROW = Row([2, 0, -3, 0, 2])
NOTHING = [Rule(1, 1), Rule(1, None, 0)]


class ShowsLongest(Case):

    def shows(self, rules, value):
        shown = shows_longest(rules, value)
        self.is_same(shown, right_longest(rules, value))
        self.is_same(shows_longest(value=value, rules=tuple(rules)), shown)
        return shown

    def test_what_is_returned_is_right(self):
        seen = {True: 0, False: 0}
        for rules in some_rules(81, 250):
            paper = longest(rules)
            self.is_same(self.shows(rules, paper), True)
            seen[bool(paper)] += 1
        self.assertTrue(min(seen.values()) > 50, seen)

    def test_bent_papers(self):
        count = {Longest: [0, 0], ForEver: [0, 0]}
        for rules in [RULES, NOTHING, [], [Rule(2, 1, 1)], [Rule(7, None, -1), Rule(11, 1)]] + list(some_rules(82, 80, 5)):
            paper = longest(rules)
            bends = (bent_numbers, bent_row if paper.parts[1:] and paper.row else None, bent_steps)
            for other in bent(paper, *(bends if paper else (bent_fraction,))):
                count[type(paper)][self.shows(rules, other)] += 1
        self.assertTrue(count[Longest][0] > 2000 and count[Longest][1] > 200, count)
        self.assertTrue(min(count[ForEver]) > 50, count)

    def test_each_part_of_one_paper(self):
        self.is_same(self.shows(RULES, Longest(5, ROW, RING)), True)
        for days in (True, None, 0, 4, 6, -5, 5.0, "5", (5,), 47, 48, 49, 10 ** 70):
            self.is_same(self.shows(RULES, Longest(days, ROW, RING)), False)
        for row in (None, Row([2, 0, -3, 0]), Row([2, 0, -3, 0, 2, 0]), Row([2, 0, -3, 0, 1]), (2, 0, -3, 0, 2), Kept(ROW), 5):
            self.is_same(self.shows(RULES, Longest(5, row, RING)), False)
        for ring in (None, (), RING[1:], RING[:-1], RING[::-1], RING + RING[:1], Ring(RING), [RING], 0):
            self.is_same(self.shows(RULES, Longest(5, ROW, ring)), False)
        for at in range(5):
            self.is_same(self.shows(RULES, Longest(5, ROW, RING[at:] + RING[:at])), True)
            place, number, sign = RING[at]
            for other in ((place, number, -sign), (place + 1, number, sign), (place, 2 - number, sign), (place, number, sign == 1)):
                if other != (1, 1, 1):
                    self.is_same(self.shows(RULES, Longest(5, ROW, RING[:at] + [other] + RING[at + 1:])), False)

    def test_true_is_no_day(self):
        rules = [Rule(2, 1), Rule(2, None, 0)]
        for days, shown in ((1, True), (True, False), (1.0, False)):
            self.is_same(self.shows(rules, Longest(days, Row([4]), [(0, 1, 1), (2, 0, -1)])), shown)

    def test_no_day(self):
        ring = [(0, 1, 1), (1, 0, -1)]
        self.is_same(self.shows(NOTHING, Longest(0, None, ring)), True)
        self.is_same(self.shows(NOTHING, Longest(0, None, ring[1:] + ring[:1])), True)
        for days, row in ((False, None), (None, None), (0, Row([0])), (0, ()), (0, 0), (0, False), (1, Row([1])), (1, None)):
            self.is_same(self.shows(NOTHING, Longest(days, row, ring)), False)
        for other in (None, [], ring[:1], [(1, 1, 1), (2, 0, -1)], [(0, 0, 1), (1, 1, -1)]):
            self.is_same(self.shows(NOTHING, Longest(0, None, other)), False)

    def test_rings_of_two_lengths(self):
        for one, other in PAIRS:
            rules = [Rule(one, 1), Rule(other, None, -1)]
            places = pair_ring(one, other)
            ring = [(place, 1, 1) if end > place else (place, 0, -1) for place, end in zip(places, places[1:])]
            row = pair_row(one, other)
            days = 0 if row is None else row.days
            self.is_same(self.shows(rules, Longest(days, row, ring)), True)
            self.is_same(self.shows(rules, Longest(days + 1, row, ring)), False)
            self.is_same(self.shows(rules, Longest(days, row, ring[1:])), False)

    def test_rings_that_want_more_days(self):
        # A ring that fits only on seven days does not show that rules last no more than five.
        ring = kept(Book(7, [THREE, FIVE])).steps
        self.is_same(self.shows([THREE, FIVE], Longest(6, Row([-3, 5, -3, -3, 5, -3]), ring)), True)
        self.is_same(self.shows([THREE, FIVE], Longest(5, Row([-3, 5, -3, -3, 5]), ring)), False)

    def test_paces(self):
        rules = [Rule(5, None, 12), Rule(7, 16)]
        for pace, shown in (
                ((16, 7), True), ((12, 5), True), ((7, 3), True), ([7, 3], True), ((14, 6), False), ((-7, -3), False),
                ((9, 4), False), ((5, 2), False), ((2, 1), False), ((23, 10), True), ((0, 1), False), (7, False), (None, False),
                ((7, 3, 1), False), ((7,), False), ((7.0, 3), False), ("73", False), ((7, True), False), ((10 ** 70, 1), False)):
            self.is_same(self.shows(rules, ForEver(pace)), shown)
        for pace, shown in (((0, 1), True), ((0, 2), False), ((0, 0), False), ((False, 1), False), ((0, True), False), ((1, 0), False)):
            self.is_same(self.shows([], ForEver(pace)), shown)
            self.is_same(self.shows([Rule(24, 0, 0)], ForEver(pace)), shown)
        for rules in some_rules(83, 60):
            for number in range(-4, 5):
                for by in range(-1, 5):
                    self.shows(rules, ForEver((number, by)))

    def test_rules_that_clash_have_no_pace(self):
        for number in range(-9, 10):
            for by in range(1, 9):
                self.is_same(self.shows(RULES, ForEver((number, by))), False)

    def test_what_is_no_such_paper(self):
        for rules in (RULES, NOTHING, [], [THREE, FOUR]):
            for value in STRANGE + alike(Longest(5, ROW, RING)) + alike(ForEver((-1, 1))) + (
                    Kept(ROW), Ring(RING), Longest(None, None, None), ForEver(None), ForEver(()), Longest(5, ROW, None)):
                self.is_same(shows_longest(rules, value), False)

    def test_what_is_no_list_of_rules(self):
        for value in NO_LISTS + (FIVE, Book(3, [])):
            self.refuses(BadRule("rules"), shows_longest, value, Longest(5, ROW, RING))
            self.refuses(BadRule("rules"), shows_longest, value, None)
        for value in NO_RULES:
            self.refuses(BadRule("rules"), shows_longest, [value], None)
            self.refuses(BadRule("rules"), shows_longest, [FIVE] * 9 + [value], None)
        self.refuses(TooMany("rules", 8), shows_longest, [FIVE] * 9, None)
        self.refuses(TooMany("rules", 8), shows_longest, [FIVE] * 8 + [Rule(25, 1)], None)
        self.refuses(TooMany("length", 24), shows_longest, [FIVE, Rule(25, 1)], Longest(5, ROW, RING))

    def test_time(self):
        chance = random.Random(84)
        rules = tight_rules(chance, 24, 6, 9) + [Rule(24, 1), Rule(24, None, 0)]
        paper = longest(rules)
        begun = perf_counter()
        for _ in range(50):
            self.is_same(shows_longest(rules, paper), True)
            self.is_same(shows_longest(rules, Longest(paper.days, paper.row, paper.ring * 20)), True)
        self.assertLess(perf_counter() - begun, 3)
        self.assertTrue(right_longest(rules, paper), triples(rules))
