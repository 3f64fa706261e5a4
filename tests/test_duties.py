"""Point 13: duties, their books, and rules of work told as rules of rest."""

import random
from itertools import product

from anyseven.books import Book
from anyseven.duties import duty_book, is_duty, rested
from anyseven.errors import BadNumber, BadRow, BadRule, TooMany
from anyseven.rows import Row
from anyseven.rules import Rule
from tests.anew import keeps_all, triples
from tests.anew_duties import fitting, some_duty_rules
from tests.support import NO_INTEGERS, NO_LISTS, Case
from tests.test_rows import NO_ROWS
from tests.test_rules import NO_RULES

NO_DAYS = NO_INTEGERS + (0, -1, 49, 10 ** 70)
RULE = Rule(3, 1, 2)


class IsDuty(Case):

    def test_all_short_rows(self):
        for days in (1, 2, 3):
            for gains in product(range(-2, 4), repeat=days):
                self.is_same(is_duty(Row(gains)), set(gains) <= {0, 1})

    def test_edges(self):
        for gains, right in (([0] * 48, True), ([1] * 48, True), ([0, 1] * 23 + [2], False), ([10 ** 5000], False), ([-1], False)):
            self.is_same(is_duty(row=Row(gains)), right)

    def test_no_rows(self):
        for value in NO_ROWS + ((0, 1), "0 1"):
            self.refuses(BadRow("row"), is_duty, value)


class DutyBooks(Case):

    def test_books(self):
        chance = random.Random(741)
        for rules in some_duty_rules(742, 100, 12):
            days = chance.randint(1, 48)
            for book in (duty_book(days, rules), duty_book(rules=tuple(rules), days=days)):
                self.is_same(book, Book(days, rules + [Rule(1, 0, 1)]))
                self.is_same(type(book.rules), tuple)

    def test_kept_by_just_the_duties_that_fit(self):
        for rules in some_duty_rules(743, 30, 5):
            for days in (1, 2, 3, 4):
                book = duty_book(days, rules)
                kept = [gains for gains in product((-1, 0, 1, 2), repeat=days) if book.keeps(Row(gains))]
                self.is_same(kept, fitting(days, triples(rules)))

    def test_edges(self):
        self.is_same(str(duty_book(1, [])), "1 : 1 0 1")
        self.is_same(str(duty_book(48, [Rule(48, 5)] * 7)), "48 : " + "48 5 - / " * 7 + "1 0 1")

    def test_rules_are_copied(self):
        rules = [RULE]
        book = duty_book(4, rules)
        rules.append(RULE)
        self.is_same(len(book.rules), 2)

    def test_wrong_arguments(self):
        for value in NO_DAYS:
            self.refuses(BadNumber("days"), duty_book, value, [RULE])
            self.refuses(BadNumber("days"), duty_book, value, None)
        for value in NO_LISTS + (RULE,):
            self.refuses(BadRule("rules"), duty_book, 4, value)
        for value in NO_RULES:
            self.refuses(BadRule("rules"), duty_book, 4, [RULE] * 8 + [value])
        for many in (8, 9, 20):
            self.refuses(TooMany("rules", 7), duty_book, 4, [RULE] * many)
            self.refuses(BadNumber("days"), duty_book, 49, [RULE] * many)


class Rested(Case):

    def test_each_bound(self):
        for rules in some_duty_rules(744, 200, 48):
            right = [(length, None if high is None else length - high, None if low is None else length - low) for length, low, high in triples(rules)]
            for told in (rested(rules), rested(rules=tuple(rules))):
                self.is_same(triples(told), right)
                self.is_same(type(told), tuple)
            self.is_same(rested(rested(rules)), tuple(rules))

    def test_rows_with_work_and_rest_exchanged(self):
        for rules in some_duty_rules(745, 60, 6):
            for days in (1, 3, 6):
                exchanged = sorted(tuple(1 - gain for gain in gains) for gains in fitting(days, triples(rules)))
                self.is_same(exchanged, fitting(days, triples(rested(rules))))

    def test_bounds_beyond_the_length(self):
        self.is_same(triples(rested([Rule(2, -5, 9), Rule(48, 10 ** 70), Rule(1, None, -7)])), [(2, -7, 7), (48, None, 48 - 10 ** 70), (1, 8, None)])
        for gains in product((0, 1), repeat=3):
            self.is_same(keeps_all(gains, [(2, -7, 7)]), True)

    def test_edges(self):
        self.is_same(rested([]), ())
        self.is_same(len(rested([RULE] * 7)), 7)

    def test_wrong_arguments(self):
        for value in NO_LISTS + (RULE,):
            self.refuses(BadRule("rules"), rested, value)
        for value in NO_RULES:
            self.refuses(BadRule("rules"), rested, [RULE] * 8 + [value])
        self.refuses(TooMany("rules", 7), rested, [RULE] * 8)
        self.refuses(TooMany("rules", 7), rested, rules=(RULE,) * 30)
