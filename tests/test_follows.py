"""Points 6 and 10: rules that follow from books, needless rules, and tightened books."""

import random
from itertools import product
from time import perf_counter

from anyseven.books import Book
from anyseven.bounds import any_greatest, any_least
from anyseven.check_bounds import shows_follows
from anyseven.errors import BadBook, BadRule, Impossible
from anyseven.follows import Breaks, Follows, follows
from anyseven.kept import kept
from anyseven.needless import needless, tightened
from anyseven.papers import Denial
from anyseven.rows import Row
from anyseven.rules import Rule
from anyseven.sorts import sums
from tests.anew import can_keep, triples
from tests.anew_bounds import costs_between, greatest_sum, least_sum, right_follows
from tests.support import Case
from tests.test_books import NO_BOOKS
from tests.test_bounds import NEVER, kept_books
from tests.test_rules import NO_RULES

RULES = [Rule(2, None, 3), Rule(3, 4)]
FOUR = Book(4, RULES)


def does_follow(book, rule):
    """Whether no stretch of the rule's length can go beyond its bounds, by the least costs of ways."""
    costs = costs_between(book.days, triples(book.rules))
    for begin in range(book.days - rule.length + 1):
        most, fewest = greatest_sum(costs, begin, rule.length), least_sum(costs, begin, rule.length)
        if rule.high is not None and (most is None or most > rule.high):
            return False
        if rule.low is not None and (fewest is None or fewest < rule.low):
            return False
    return True


def rules_near(chance, book, count=6):
    """Rules near what follows from the book, and any."""
    costs = costs_between(book.days, triples(book.rules))
    for _ in range(count):
        length = chance.randint(1, book.days + 1)
        ways = [costs.get((begin, begin + length)) for begin in range(book.days - length + 1)]
        homes = [costs.get((begin + length, begin)) for begin in range(book.days - length + 1)]
        high = max(ways) if ways and None not in ways else chance.randint(-5, 15)
        low = -max(homes) if homes and None not in homes else chance.randint(-15, 5)
        high, low = high + chance.choice((-1, 0, 0, 1)), low - chance.choice((-1, 0, 0, 1))
        kind = chance.choice("lhb")
        if kind == "b" and low <= high:
            yield Rule(length, low, high)
        elif kind == "l":
            yield Rule(length, low)
        else:
            yield Rule(length, None, high)


class Following(Case):

    def right(self, book, rule):
        paper = follows(book, rule)
        self.assertTrue(right_follows(book, rule, paper), (str(book), str(rule), paper.parts))
        self.is_same(shows_follows(book, rule, paper), True)
        self.is_same(follows(rule=rule, book=book) == paper, True)
        if type(paper) is Follows:
            self.is_same((paper.word, paper.parts, bool(paper)), ("follows", (paper.ways,), True))
        else:
            self.is_same((type(paper), paper.word, paper.parts, bool(paper)), (Breaks, "breaks", (paper.row, paper.begin), False))
            self.assertTrue(isinstance(paper, Denial))
            self.assertTrue(all(abs(height) < 10 ** 60 for height in paper.row.heights))
        return bool(paper)

    def test_against_least_costs(self):
        chance = random.Random(221)
        seen = [0, 0]
        for book in kept_books(222, 200):
            for rule in rules_near(chance, book):
                told = self.right(book, rule)
                self.is_same(told, does_follow(book, rule))
                seen[told] += 1
        self.assertGreater(min(seen), 200)

    def test_against_all_rows(self):
        chance = random.Random(223)
        for book in kept_books(224, 25, 4, 3, 2):
            rows = [row for row in map(Row, product(range(-4, 5), repeat=book.days)) if book.keeps(row)]
            for rule in rules_near(chance, book):
                if self.right(book, rule):
                    self.assertTrue(all(rule.keeps(row) for row in rows))

    def test_rules_of_more_days(self):
        for book in (FOUR, Book(1, []), Book(47, RULES)):
            for rule in (Rule(book.days + 1, 7), Rule(48, None, -9), Rule(48, 0, 0)):
                if rule.length > book.days:
                    self.is_same(follows(book, rule), Follows(()))

    def test_rules_of_the_book_itself(self):
        for book in kept_books(225, 60):
            for rule in book.rules:
                self.is_same(self.right(book, rule), True)

    def test_none_in_the_place_of_a_way(self):
        for rule, place in ((Rule(1, None, 2), 0), (Rule(1, 1), 1), (Rule(4, None, 6), 0), (Rule(4, 4), 1)):
            paper = follows(FOUR, rule)
            self.is_same([pair[place] for pair in paper.ways], [None] * (5 - rule.length))
            self.assertTrue(all(pair[1 - place] for pair in paper.ways))
        self.is_same(follows(FOUR, Rule(2, None, 3)).ways, tuple((None, ((begin, 0, 1),)) for begin in range(3)))

    def test_where_there_is_no_bound(self):
        for days in (1, 3, 48):
            for rule in (Rule(1, -10 ** 9), Rule(1, None, 10 ** 9), Rule(days, 0, 0), Rule(days, None, -7), Rule(1, 5)):
                self.is_same(self.right(Book(days, []), rule), False)
        book = Book(10, [Rule(5, None, 12), Rule(7, 16)])
        paper = follows(book, Rule(2, -10 ** 6))
        self.is_same(bool(paper), False)
        self.assertLess(paper.row.sum_of(paper.begin, 2), -10 ** 6)

    def test_books_that_no_row_keeps(self):
        for rule in (Rule(1, 0), Rule(3, None, -1), Rule(8, 1), Rule(48, 1)):
            self.refuses(Impossible(kept(NEVER)), follows, NEVER, rule)

    def test_wrong_arguments(self):
        for value in NO_RULES:
            for book in (FOUR, NEVER):
                self.refuses(BadRule("rule"), follows, book, value)
        for value in NO_BOOKS:
            if not isinstance(value, Book):
                self.refuses(BadBook("book"), follows, value, Rule(1, 0))
                self.refuses(BadBook("book"), follows, value, None)

    def test_time(self):
        chance = random.Random(226)
        row = Row([chance.randint(-999999, 999999) for _ in range(48)])
        rules = [Rule(length, min(sums(row, length)), max(sums(row, length))) for length in (1, 2, 3, 4, 5, 6, 7, 8)]
        book = Book(48, rules)
        begun = perf_counter()
        follows(book, Rule(9, -10 ** 9, 10 ** 9)), needless(book), tightened(book)
        needless(Book(48, [Rule(1, -10 ** 6, 10 ** 6)] * 8))
        self.assertLess(perf_counter() - begun, 3)


class Needless(Case):

    def test_against_each_rule(self):
        seen = [0, 0]
        for book in kept_books(231, 200, 6, 5, 2):
            right = tuple(
                number for number, rule in enumerate(book.rules) if does_follow(book.without([number]), rule))
            self.is_same(needless(book), right)
            self.is_same(needless(book=book), right)
            seen[0] += len(right)
            seen[1] += len(book.rules) - len(right)
        self.assertGreater(min(seen), 100)

    def test_some_books(self):
        for rules, right in (
                ([], ()), ([Rule(2, 1)], ()), ([Rule(9, 1)], (0,)), ([Rule(2, 1), Rule(2, 1)], (0, 1)),
                ([Rule(2, 1), Rule(2, 0)], (1,)), ([Rule(1, 0), Rule(2, 0), Rule(4, 0)], (1, 2)),
                ([Rule(1, 0), Rule(4, None, 5), Rule(2, None, 5), Rule(1, None, 5)], (2, 3)),
                ([Rule(2, None, 3)] * 8, tuple(range(8)))):
            self.is_same(needless(Book(4, rules)), right)

    def test_without_one_of_them_the_same_rows(self):
        for book in kept_books(232, 25, 4, 4, 2):
            rows = [Row(gains) for gains in product(range(-3, 4), repeat=book.days)]
            for number in needless(book):
                fewer = book.without([number])
                self.is_same([fewer.keeps(row) for row in rows], [book.keeps(row) for row in rows])

    def test_books_that_no_row_keeps(self):
        for call in (needless, tightened):
            self.refuses(Impossible(kept(NEVER)), call, NEVER)
            book = Book(2, [Rule(1, 1), Rule(1, None, 0), Rule(9, 0)])
            self.refuses(Impossible(kept(book)), call, book)
            for value in NO_BOOKS:
                if not isinstance(value, Book):
                    self.refuses(BadBook("book"), call, value)


class Tightened(Case):

    def test_against_the_bounds_of_any_stretch(self):
        for book in kept_books(241, 150):
            rules = []
            for length in sorted({rule.length for rule in book.rules if rule.length <= book.days}):
                fewest, most = any_least(book, length), any_greatest(book, length)
                rules.append((length, fewest.number if fewest else None, most.number if most else None))
            told = tightened(book)
            self.is_same((told.days, triples(told.rules)), (book.days, rules))
            self.is_same(tightened(book=book), told)
            self.is_same(tightened(told), told)

    def test_the_same_rows_keep_it(self):
        for book in kept_books(242, 40, 4, 4, 2):
            told = tightened(book)
            self.assertTrue(can_keep(told.days, triples(told.rules)))
            for gains in product(range(-4, 5), repeat=book.days):
                self.is_same(told.keeps(Row(gains)), book.keeps(Row(gains)))

    def test_needless_rules_change_nothing(self):
        for book in kept_books(243, 60, 6):
            for number in needless(book):
                lengths = [rule.length for at, rule in enumerate(book.rules) if at != number]
                if book.rules[number].length in lengths or book.rules[number].length > book.days:
                    self.is_same(tightened(book.without([number])), tightened(book))

    def test_edges(self):
        self.is_same(tightened(Book(5, [])), Book(5, []))
        self.is_same(tightened(Book(5, [Rule(6, 1), Rule(48, None, 0)])), Book(5, []))
        self.is_same(tightened(Book(5, [Rule(5, None, 3), Rule(5, -1), Rule(5, None, 2)])), Book(5, [Rule(5, -1, 2)]))
        self.is_same(tightened(Book(2, [Rule(2, 8), Rule(1, 0, 5)])), Book(2, [Rule(1, 3, 5), Rule(2, 8, 10)]))
        self.is_same(tightened(Book(2, [Rule(2, None, 8), Rule(1, 0)])), Book(2, [Rule(1, 0, 8), Rule(2, 0, 8)]))
        self.is_same(tightened(Book(3, [Rule(2, None, 8)])), Book(3, [Rule(2, None, 8)]))
        self.is_same(tightened(Book(1, [Rule(1, 4), Rule(1, None, 4)])), Book(1, [Rule(1, 4, 4)]))
