"""Points 9, 10, 12 and 13: the fewest and the most duties, sure and free days."""

import random
from time import perf_counter

from anyseven.bounds import greatest, least
from anyseven.duties import duty_book, rested
from anyseven.duty_bounds import Duties, fewest_duties, most_duties, sure_days
from anyseven.errors import BadNumber, BadRule, Impossible, TooMany
from anyseven.kept import Ring, kept
from anyseven.level_lengths import level_lengths
from anyseven.levelled import levelled
from anyseven.paces import paces
from anyseven.rows import Row
from anyseven.rules import Rule
from tests.anew import is_low_ring, triples
from tests.anew_duties import WORK, fitting, right_duties, some_duty_rules
from tests.support import NO_LISTS, Case
from tests.test_duties import NO_DAYS
from tests.test_rules import NO_RULES

RULE = Rule(3, 1, 2)
CALLS = ((fewest_duties, -1), (most_duties, 1))
NEVER = [Rule(2, 2), Rule(3, None, 1)]


class Bounds(Case):

    def right(self, days, rules, call, sign):
        """The row of the paper, None if no duty fits."""
        told = list(triples(rules)) + [WORK]
        try:
            paper = call(days, rules)
        except Impossible as error:
            ring = error.paper
            self.is_same(type(ring), Ring)
            self.is_same(is_low_ring(days, told, ring.steps), True)
            self.refuses(Impossible(ring), call, rules=tuple(rules), days=days)
            if days <= 24:
                self.refuses(Impossible(ring), sure_days, days, rules)
            return None
        self.is_same((type(paper), paper.word, paper.parts, bool(paper)), (Duties, "duties", (paper.row, paper.way), True))
        self.is_same(right_duties(days, triples(rules), sign, paper), True)
        self.is_same(call(rules=tuple(rules), days=days) == paper, True)
        return paper.row

    def test_against_listing(self):
        chance = random.Random(771)
        seen = [0, 0]
        for rules in some_duty_rules(772, 200, 7):
            days = chance.randint(1, 9)
            listed = fitting(days, triples(rules))
            seen[len(listed) > 0] += 1
            for call, sign in CALLS:
                row = self.right(days, rules, call, sign)
                if not listed:
                    self.is_same(row, None)
                    continue
                self.assertIn(row.gains, listed)
                self.is_same(row.total, max(map(sum, listed)) if sign == 1 else min(map(sum, listed)))
        self.assertGreater(min(seen), 10)

    def test_sure_and_free_days(self):
        chance = random.Random(773)
        seen = [0, 0]
        for rules in some_duty_rules(774, 300, 7):
            days = chance.randint(1, 8)
            listed = fitting(days, triples(rules))
            if not listed:
                self.assertRaises(Impossible, sure_days, days, rules)
                continue
            right = tuple(tuple(day for day in range(days) if all(gains[day] == work for gains in listed)) for work in (1, 0))
            self.is_same(sure_days(days, rules), right)
            self.is_same(sure_days(rules=tuple(rules), days=days), right)
            seen[right != ((), ())] += 1
        self.assertGreater(min(seen), 20)

    def test_longer_rules(self):
        chance = random.Random(775)
        seen = [0, 0]
        for rules in some_duty_rules(776, 60, 48):
            for days in (chance.randint(25, 47), 48):
                rows = [self.right(days, rules, call, sign) for call, sign in CALLS]
                seen[rows[0] is not None] += 1
                if rows[0] is not None:
                    self.assertTrue(rows[0].total <= rows[1].total)
        self.assertGreater(min(seen), 10)

    def test_bounds_of_books(self):
        for rules in some_duty_rules(777, 60, 10):
            book = duty_book(12, rules)
            if kept(book):
                self.is_same(fewest_duties(12, rules).row.total, least(book, 0, 12).number)
                self.is_same(most_duties(12, rules).row.total, greatest(book, 0, 12).number)
                sure, free = sure_days(12, rules)
                for day in range(12):
                    self.is_same(day in sure, least(book, day, 1).number == 1)
                    self.is_same(day in free, greatest(book, day, 1).number == 0)

    def test_work_and_rest_exchanged(self):
        for rules in some_duty_rules(778, 80, 9):
            if kept(duty_book(15, rules)):
                self.is_same(fewest_duties(15, rules).row.total, 15 - most_duties(15, rested(rules)).row.total)
                self.is_same(most_duties(15, rules).row.total, 15 - fewest_duties(15, rested(rules)).row.total)
                self.is_same(sure_days(15, rules), sure_days(15, rested(rules))[::-1])

    def test_for_ever(self):
        for rules in some_duty_rules(779, 80, 24):
            # Rules of lengths up to 24 that clash last 45 days at most.
            fits = bool(paces(rules + [Rule(*WORK)]))
            self.is_same(self.right(48, rules, *CALLS[0]) is not None, fits)

    def test_level_lengths_of_duties(self):
        # A duty levelled has a level stretch of each k-th part of its days.
        for rules in some_duty_rules(780, 25, 6):
            if kept(duty_book(12, rules)):
                spans = level_lengths(levelled(fewest_duties(12, rules).row))
                for length in (1, 2, 3, 4, 6, 12):
                    self.assertTrue(any(first[0] <= length * first[1] and length * last[1] <= last[0] for first, last in spans))

    def test_edges(self):
        self.is_same([call(1, []).row for call, _ in CALLS], [Row([0]), Row([1])])
        self.is_same([call(48, []).row.total for call, _ in CALLS], [0, 48])
        self.is_same(sure_days(1, []), ((), ()))
        self.is_same(sure_days(1, [Rule(1, 1)]), ((0,), ()))
        self.is_same(sure_days(24, [Rule(1, None, 0)]), ((), tuple(range(24))))
        self.is_same(sure_days(1, [Rule(2, 2), Rule(48, 9)]), ((), ()))
        self.is_same(sure_days(3, [Rule(2, 1, 1), Rule(3, 2)]), ((0, 2), (1,)))
        self.is_same([call(48, [Rule(48, 7, 7)] * 7).row.total for call, _ in CALLS], [7, 7])

    def test_no_duty_fits(self):
        for call, _ in CALLS:
            with self.assertRaises(Impossible) as caught:
                call(3, NEVER)
            self.is_same(is_low_ring(3, triples(NEVER) + [WORK], caught.exception.paper.steps), True)
        with self.assertRaises(Impossible) as caught:
            sure_days(3, [Rule(1, 2)])
        self.is_same(type(caught.exception.paper), Ring)


class Wrong(Case):

    def test_arguments(self):
        for call in (fewest_duties, most_duties, sure_days):
            for value in NO_DAYS:
                self.refuses(BadNumber("days"), call, value, NEVER)
                self.refuses(BadNumber("days"), call, value, None)
            for value in NO_LISTS + (RULE,):
                self.refuses(BadRule("rules"), call, 48, value)
            for value in NO_RULES:
                self.refuses(BadRule("rules"), call, 48, NEVER * 4 + [value])
            self.refuses(TooMany("rules", 7), call, 48, NEVER * 4)
            self.refuses(TooMany("rules", 7), call, rules=[RULE] * 8, days=3)
        for days in (25, 48):
            self.refuses(TooMany("days", 24), sure_days, days, NEVER)
            self.refuses(TooMany("days", 24), sure_days, days, [])
        self.is_same(sure_days(24, []), ((), ()))


class Time(Case):

    def test_time(self):
        begun = perf_counter()
        for many in range(1, 6):
            rules = [Rule(length, length // 2 - many, length // 2 + many) for length in (47, 41, 37, 31, 29, 23, 17)]
            fewest_duties(48, rules), most_duties(48, rules)
            sure_days(24, [Rule(length, length // 2 - 1, length // 2 + 1) for length in (23, 19, 17, 13, 11, 7, 5)])
        self.assertLess(perf_counter() - begun, 3)
