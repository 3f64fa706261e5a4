"""Point 6: how far a rule must be loosened."""

import random
from time import perf_counter

from anyseven.books import Book
from anyseven.check_kept import shows_loosened
from anyseven.errors import BadBook, NoRule
from anyseven.kept import kept
from anyseven.loosened import Loosened, NeverKept, loosened
from anyseven.papers import Denial
from anyseven.rows import Row
from anyseven.rules import Rule
from tests.anew import can_keep, one_loosened, right_loosened, tight_rules, triples
from tests.support import NO_INTEGERS, Case
from tests.test_books import NO_BOOKS
from tests.test_kept import random_book

SEVEN = Book(7, [Rule(3, None, -1), Rule(5, 1)])


class Answers(Case):

    def right(self, book, number):
        """The least integer that is enough, None for a rule that never helps; the paper is looked at."""
        paper = loosened(book, number)
        self.assertTrue(right_loosened(book, number, paper), (str(book), number, paper.parts))
        self.is_same(shows_loosened(book, number, paper), True)
        self.is_same(loosened(Book(book.days, list(book.rules)), number) == paper, True)
        if type(paper) is NeverKept:
            self.is_same((paper.word, paper.parts, bool(paper)), ("neverkept", (paper.ring,), False))
            self.assertTrue(isinstance(paper, Denial))
            return None
        self.assertIs(type(paper), Loosened)
        self.is_same((paper.word, paper.parts, bool(paper)), ("loosened", (paper.by, paper.row, paper.ring), True))
        self.assertIs(type(paper.row), Row)
        self.assertIs(type(paper.by), int)
        for number in paper.row.heights + (paper.by,):
            self.assertLess(abs(number), 10 ** 60)
        return paper.by


class Small(Answers):

    def test_against_trying_each(self):
        chance = random.Random(31)
        seen = {}
        for _ in range(400):
            days = chance.randint(1, 7)
            book = Book(days, tight_rules(chance, days, chance.randint(1, 5), 3))
            number, rules = chance.randrange(len(book.rules)), triples(book.rules)
            by = self.right(book, number)
            others = rules[:number] + rules[number + 1:]
            self.is_same(by is None, not can_keep(book.days, others))
            if by is not None:
                tried = next(by for by in range(1000) if can_keep(book.days, one_loosened(rules, number, by)))
                self.is_same(by, tried)
            seen[by] = seen.get(by, 0) + 1
        self.assertTrue(min(seen[None], seen[0]) > 50 and min(seen[by] for by in (1, 2, 3)) > 5, seen)

    def test_kept_books_ask_for_nothing(self):
        for days in (1, 2, 47, 48):
            for rules in ([Rule(1, 1)], [Rule(2, None, -1), Rule(3, -9, 9)], [Rule(48, 0, 0)] * 8,
                          [Rule(days, 7, 7), Rule(days, 7, 9)]):
                for number in range(len(rules)):
                    self.is_same(self.right(Book(days, rules), number), 0)
                    self.is_same(loosened(Book(days, rules), number).ring, None)

    def test_bounds_that_are_told_move(self):
        for low, high, other, by in (
                (5, None, Rule(2, None, 3), 2), (None, -5, Rule(2, 3), 8), (5, 5, Rule(2, None, -4), 9),
                (5, 7, Rule(2, 30), 23), (5, 7, Rule(2, 6), 0), (5, 5, Rule(2, None, 4), 1)):
            self.is_same(self.right(Book(2, [Rule(2, low, high), other]), 0), by)
            self.is_same(self.right(Book(2, [other, Rule(2, low, high)]), 1), by)

    def test_several_steps_by_a_rule_round_a_ring(self):
        # All days together ask of the rule of one day for a part of what they lack.
        for days, high, total, each, whole in (
                (6, 0, 25, 5, 25), (6, 4, 25, 1, 1), (6, 5, 25, 0, 0), (4, 0, 24, 6, 24), (4, 0, 25, 7, 25),
                (1, 3, 9, 6, 6), (48, 0, 48, 1, 48), (48, 0, 49, 2, 49), (48, -1, 0, 1, 48)):
            self.is_same(self.right(Book(days, [Rule(1, None, high), Rule(days, total)]), 0), each)
            self.is_same(self.right(Book(days, [Rule(1, None, high), Rule(days, total)]), 1), whole)

    def test_a_ring_with_both_bounds_of_a_rule_beside_it(self):
        # 0 to 3, back to 1, to 4, back to 2, back to 0: two steps by the first rule, three by the other.
        for low, by in ((1, 2), (2, 3), (3, 5), (0, 0), (-1, 0)):
            self.is_same(self.right(Book(4, [Rule(3, 0, 0), Rule(2, low)]), 0), by)
            self.is_same(self.right(Book(4, [Rule(3, 0, 0), Rule(2, None, -low)]), 0), by)
            self.is_same(self.right(Book(3, [Rule(3, 0, 0), Rule(2, low)]), 0), 0)
            self.is_same(self.right(Book(4, [Rule(3, 0, 0), Rule(2, low)]), 1), max(0, low))

    def test_rules_that_never_help(self):
        never = SEVEN.with_rule(Rule(1, 0, 5))
        self.is_same(self.right(never, 2), None)
        self.assertEqual({step[1] for step in loosened(never, 2).ring}, {0, 1})
        self.is_same(self.right(SEVEN.with_rule(Rule(8, 0, 5)), 2), None)
        twice = Book(3, [Rule(1, 1), Rule(1, None, 0), Rule(1, 1), Rule(1, None, 0)])
        for number in range(4):
            self.is_same(self.right(twice, number), None)

    def test_rules_keep_their_numbers(self):
        chance = random.Random(32)
        count = 0
        for _ in range(300):
            book = random_book(chance, 8, 6, 3)
            paper = loosened(book, 0)
            if type(paper) is NeverKept:
                count += 1
                self.assertTrue(set(step[1] for step in paper.ring) <= set(range(1, 6)))
        self.assertGreater(count, 50)

    def test_a_rule_of_more_days_than_the_book_has(self):
        self.is_same(self.right(Book(3, [Rule(4, 1), Rule(1, None, 0)]), 0), 0)
        self.is_same(self.right(Book(3, [Rule(4, 1), Rule(1, None, 0), Rule(1, 1)]), 0), None)

    def test_so_many_times_and_turned(self):
        chance = random.Random(33)
        for _ in range(60):
            book = Book(6, tight_rules(chance, 6, 4, 4))
            by = self.right(book, 1)
            self.is_same(self.right(book.turned(), 1), by)
            more = Book(6, [rule.times(5) for rule in book.rules])
            times = self.right(more, 1)
            if by is None:
                self.is_same(times, None)
            else:
                # Whole numbers are asked for, so five times as much can ask for a little less than five times.
                self.assertTrue(5 * (by - 1) < times <= 5 * by, (by, times))


class Long(Answers):

    def test_48_days_with_eight_rules(self):
        chance = random.Random(34)
        seen = {True: 0, False: 0}
        for spread in (3, 40, 10 ** 6 - 1):
            for _ in range(12):
                book = random_book(chance, 48, 8, spread)
                for number in (0, 5):
                    begun = perf_counter()
                    loosened(book, number)
                    self.assertLess(perf_counter() - begun, 3)
                    seen[self.right(book, number) is None] += 1
        self.assertGreater(seen[True], 10)

    def test_one_rule_spoils_what_a_row_keeps(self):
        chance = random.Random(35)
        for spread in (10 ** 3, 10 ** 6 - 1, 10 ** 9 - 1):
            for _ in range(5):
                gains = [chance.randint(-spread // 48, spread // 48) for _ in range(48)]
                rules = []
                for length in chance.sample(range(1, 49), 7):
                    found = [sum(gains[begin:begin + length]) for begin in range(49 - length)]
                    rules.append(Rule(length, min(found), max(found)))
                length = chance.randint(1, 48)
                book = Book(48, rules[:3] + [Rule(length, spread, spread)] + rules[3:])
                begun = perf_counter()
                paper = loosened(book, 3)
                self.assertLess(perf_counter() - begun, 3)
                self.assertTrue(paper)
                self.is_same(self.right(book, 3), paper.by)
                self.assertFalse(kept(book) and paper.by > 0)


class Wrong(Case):

    def test_what_is_no_book(self):
        for value in NO_BOOKS:
            self.refuses(BadBook("book"), loosened, value, 0)
            self.refuses(BadBook("book"), loosened, value, None)

    def test_what_is_no_number_of_a_rule(self):
        for value in NO_INTEGERS + (-1, 2, 10 ** 70):
            self.refuses(NoRule(value), loosened, SEVEN, value)
            self.refuses(NoRule(value), loosened, number=value, book=SEVEN)
        self.refuses(NoRule(0), loosened, Book(4, []), 0)
