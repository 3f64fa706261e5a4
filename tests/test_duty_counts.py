"""Point 13: duties counted, numbered there and back, and listed."""

import random
from itertools import product
from time import perf_counter

from anyseven.duties import duty_book, rested
from anyseven.duty_counts import all_duties, day_counts, duty_at, many_duties, many_from, number_of
from anyseven.errors import BadNumber, BadRow, BadRule, TooMany
from anyseven.even import even_row
from anyseven.paces import paces, simplest_pace
from anyseven.rows import Row
from anyseven.rules import Rule
from tests.anew import triples
from tests.anew_duties import fitting, many_fitting, some_duty_rules
from tests.support import NO_INTEGERS, NO_LISTS, NO_LISTS_OF_INTEGERS, Case
from tests.test_duties import NO_DAYS
from tests.test_rows import NO_ROWS
from tests.test_rules import NO_RULES

RULE = Rule(3, 1, 2)
WIDE = [Rule(8, 1, 7), Rule(7, 1, 6), Rule(6, 0, 5), Rule(5, 0, 4), Rule(4, 0, 4), Rule(3, 0, 3), Rule(2, 0, 2)]


class Counted(Case):

    def test_against_listing(self):
        chance = random.Random(751)
        seen = [0, 0]
        for rules in some_duty_rules(752, 200, 5):
            days = chance.randint(1, 9)
            listed = fitting(days, triples(rules))
            seen[len(listed) > 0] += 1
            self.is_same(many_duties(days, rules), len(listed))
            self.is_same(many_duties(rules=tuple(rules), days=days), len(listed))
            self.is_same(day_counts(days, rules), tuple(sum(gains[day] for gains in listed) for day in range(days)))
            self.is_same(day_counts(rules=rules, days=days), day_counts(days, rules))
            if len(listed) <= 400:
                self.is_same(all_duties(days, rules), tuple(map(Row, listed)))
                self.is_same(all_duties(rules=tuple(rules), days=days), all_duties(days, rules))
            else:
                self.refuses(TooMany("duties", 400), all_duties, days, rules)
        self.assertGreater(min(seen), 15)

    def test_each_begin(self):
        for rules in some_duty_rules(753, 40):
            for days in (1, 2, 5):
                listed = fitting(days, triples(rules))
                for many in range(days + 1):
                    for begun in product((0, 1), repeat=many):
                        right = len([gains for gains in listed if gains[:many] == begun])
                        self.is_same(many_from(days, rules, begun), right)
                        self.is_same(many_from(begun=list(begun), rules=tuple(rules), days=days), right)

    def test_there_and_back(self):
        chance = random.Random(754)
        for rules in some_duty_rules(755, 60):
            days = chance.randint(1, 8)
            listed = fitting(days, triples(rules))
            for number, gains in enumerate(listed):
                row = duty_at(days, rules, number)
                self.is_same((type(row), row.gains), (Row, gains))
                self.is_same(number_of(rules, row), number)
            for gains in product((0, 1), repeat=days):
                self.is_same(number_of(row=Row(gains), rules=tuple(rules)), listed.index(gains) if gains in listed else None)
            for number in (-1, len(listed), len(listed) + 1, 10 ** 70):
                self.refuses(BadNumber("number"), duty_at, days, rules, number)

    def test_many_days(self):
        chance = random.Random(756)
        for rules in list(some_duty_rules(757, 40)) + [[], WIDE]:
            many = many_duties(24, rules)
            self.is_same(many, many_fitting(24, tuple(triples(rules))))
            begun = [chance.randint(0, 1) for _ in range(chance.randint(0, 24))]
            self.is_same(many_from(24, rules, begun), many_fitting(24, tuple(triples(rules)), tuple(begun)))
            self.is_same(many_from(24, rules, []), many)
            numbers = {0, 1, many // 3, many // 2, many - 2, many - 1} | {chance.randrange(many) for _ in range(5) if many}
            rows = [(number, duty_at(24, rules, number)) for number in sorted(numbers) if 0 <= number < many]
            for number, row in rows:
                self.assertTrue(duty_book(24, rules).keeps(row))
                self.is_same(number_of(rules, row), number)
            self.is_same([row.gains for _, row in rows], sorted(row.gains for _, row in rows))
            if many > 1:
                one, other = duty_at(24, rules, many // 2 - 1), duty_at(24, rules, many // 2)
                # Between two neighbours no duty comes.
                self.assertTrue(one.gains < other.gains)

    def test_days_with_work(self):
        for rules in some_duty_rules(758, 30):
            counts = day_counts(24, rules)
            many = many_duties(24, rules)
            self.is_same(counts[0], many_from(24, rules, [1]))
            self.is_same(many - counts[0], many_from(24, rules, [0]))
            self.is_same(len(counts), 24)
            # A row backwards keeps the same rules.
            self.is_same(counts, counts[::-1])

    def test_work_and_rest_exchanged(self):
        chance = random.Random(759)
        for rules in some_duty_rules(760, 60):
            days = chance.randint(1, 24)
            many = many_duties(days, rules)
            self.is_same(many_duties(days, rested(rules)), many)
            for number in {0, many // 2, many - 1} if many else ():
                exchanged = Row([1 - gain for gain in duty_at(days, rules, number).gains])
                self.is_same(number_of(rested(rules), exchanged), many - 1 - number)
                self.is_same(duty_at(days, rested(rules), many - 1 - number), exchanged)
            self.is_same(day_counts(days, rested(rules)), tuple(many - count for count in day_counts(days, rules)))

    def test_duties_for_ever(self):
        # Rules of lengths up to 8 that clash last 13 days at most, so what goes on for 24 days goes on for ever.
        seen = [0, 0]
        for rules in some_duty_rules(761, 150):
            duty_rules = rules + [Rule(1, 0, 1)]
            fits = many_duties(24, rules) > 0
            seen[fits] += 1
            self.is_same(bool(paces(duty_rules)), fits)
            if fits:
                pace = simplest_pace(duty_rules)
                self.assertTrue(0 <= pace[0] <= pace[1])
                for begin in (0, 5, -7):
                    self.is_same(type(number_of(rules, even_row(pace, begin, 24))), int)
                    self.assertTrue(duty_book(48, rules).keeps(even_row(pace, begin, 48)))
        self.assertGreater(min(seen), 15)

    def test_edges(self):
        self.is_same([many_duties(days, []) for days in (1, 2, 24)], [2, 4, 2 ** 24])
        self.is_same(day_counts(24, []), (2 ** 23,) * 24)
        self.is_same(duty_at(24, [], 2 ** 24 - 1), Row([1] * 24))
        self.is_same(number_of([], Row([1] * 24)), 2 ** 24 - 1)
        self.is_same(number_of([], Row([0, 2])), None)
        self.is_same(number_of([], Row([-1])), None)
        self.is_same([duty.gains for duty in all_duties(1, [])], [(0,), (1,)])
        # Rules longer than the days say nothing.
        self.is_same(many_duties(7, [Rule(8, 9)]), 128)
        self.is_same(many_duties(8, [Rule(8, 9)]), 0)
        self.is_same(many_duties(8, [Rule(8, 8)] * 7), 1)
        self.is_same(day_counts(3, [Rule(2, 2), Rule(3, None, 1)]), (0, 0, 0))
        self.is_same(all_duties(3, [Rule(1, 2)]), ())
        self.is_same(many_duties(5, [Rule(1, -10 ** 70, 10 ** 70)]), 32)
        self.is_same(len(all_duties(8, [])), 256)
        self.refuses(TooMany("duties", 400), all_duties, 9, [])
        self.is_same(many_from(3, [], (1, 0, 1)), 1)
        self.is_same(many_from(3, [Rule(2, None, 1)], (1, 1)), 0)

    def test_just_400(self):
        for days, rules in ((9, [Rule(3, 1)]), (10, [RULE]), (11, [Rule(2, None, 1)]), (12, [Rule(2, None, 1)]), (13, [Rule(4, 1, 2)])):
            many = len(fitting(days, triples(rules)))
            if many > 400:
                self.refuses(TooMany("duties", 400), all_duties, days, rules)
            else:
                self.is_same(len(all_duties(days, rules)), many)
        self.is_same(len(all_duties(12, [Rule(2, None, 1)])), 377)
        few = [Rule(8, None, 2), Rule(3, None, 1)]
        self.is_same((len(all_duties(16, few)), many_fitting(16, tuple(triples(few)))), (400, 400))
        self.is_same(many_duties(9, [Rule(4, 1)]), 401)
        self.refuses(TooMany("duties", 400), all_duties, 9, [Rule(4, 1)])


class Wrong(Case):

    calls = (
        many_duties, day_counts, all_duties, lambda days, rules: many_from(days, rules, [0]),
        lambda days, rules: duty_at(days, rules, 0))

    def test_days_and_rules(self):
        for call in self.calls:
            for value in NO_DAYS:
                self.refuses(BadNumber("days"), call, value, [RULE])
                self.refuses(BadNumber("days"), call, value, [None])
            for value in NO_LISTS + (RULE,):
                self.refuses(BadRule("rules"), call, 25, value)
            for value in NO_RULES:
                self.refuses(BadRule("rules"), call, 25, [Rule(9, 1)] * 8 + [value])
            self.refuses(TooMany("rules", 7), call, 25, [Rule(9, 1)] * 8)
            self.refuses(TooMany("days", 24), call, 25, [Rule(9, 1)] * 7)
            self.refuses(TooMany("days", 24), call, 48, [])
            self.refuses(TooMany("length", 8), call, 24, [RULE, Rule(9, 1)])
            # Also one that says nothing.
            self.refuses(TooMany("length", 8), call, 2, [Rule(48, None, 1)])

    def test_begun(self):
        for value in NO_LISTS_OF_INTEGERS + ([2], (0, 1, -1), [1, 0, 1, 0, 1], [0] * 5, [10 ** 70]):
            self.refuses(BadNumber("begun"), many_from, 4, [RULE], value)
            self.refuses(BadNumber("begun"), many_from, 4, [Rule(9, 1)] * 8, value)
        self.refuses(BadNumber("begun"), many_from, 25, [Rule(9, 1)] * 8, [0] * 26)
        self.refuses(TooMany("rules", 7), many_from, 25, [Rule(9, 1)] * 8, [0] * 25)
        self.refuses(BadRule("rules"), many_from, 25, None, None)

    def test_numbers(self):
        for value in NO_INTEGERS + (-1, 10, 11, 10 ** 70):
            self.refuses(BadNumber("number"), duty_at, 4, [RULE], value)
            self.refuses(BadNumber("number"), duty_at, number=value, rules=[Rule(2, 2), Rule(3, None, 1)], days=3)
            self.refuses(TooMany("rules", 7), duty_at, 25, [Rule(9, 1)] * 8, value)
            self.refuses(TooMany("days", 24), duty_at, 25, [Rule(9, 1)], value)
            self.refuses(TooMany("length", 8), duty_at, 24, [Rule(9, 1)], value)
        for value in (0, 1, -1):
            self.refuses(BadNumber("number"), duty_at, 3, [Rule(2, 2), Rule(3, None, 1)], value)

    def test_rows(self):
        for value in NO_LISTS + (RULE,):
            self.refuses(BadRule("rules"), number_of, value, None)
        for value in NO_RULES:
            self.refuses(BadRule("rules"), number_of, [Rule(9, 1)] * 8 + [value], Row([0] * 25))
        for value in NO_ROWS:
            self.refuses(BadRow("row"), number_of, [RULE], value)
            self.refuses(BadRow("row"), number_of, [Rule(9, 1)] * 8, value)
        self.refuses(TooMany("rules", 7), number_of, [Rule(9, 1)] * 8, Row([0] * 25))
        self.refuses(TooMany("days", 24), number_of, [Rule(9, 1)], Row([2] * 25))
        self.refuses(TooMany("length", 8), number_of, [Rule(9, 1)], Row([2]))


class Time(Case):

    def test_time(self):
        begun = perf_counter()
        for rules in (WIDE, [Rule(8, 1, 7)] * 7, [Rule(8, 4, 4), Rule(7, 3, 4), Rule(6, 2, 4), Rule(2, None, 2)]):
            many = many_duties(24, rules)
            day_counts(24, rules), many_from(24, rules, [0, 1] * 12)
            self.is_same(number_of(rules, duty_at(24, rules, many - 1)), many - 1)
        self.is_same(len(all_duties(24, [Rule(8, 4, 4)])), 70)
        self.is_same(len(all_duties(12, [Rule(2, None, 1), Rule(8, 0, 8)])), 377)
        self.assertLess(perf_counter() - begun, 3)
