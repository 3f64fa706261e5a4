"""Points 5, 6 and 10: the greatest and the least sum of a stretch, and of any stretch of a length."""

import random
from itertools import product
from time import perf_counter

from anyseven.books import Book
from anyseven.bounds import AnyBound, AnyUnbound, Bound, Unbound, any_greatest, any_least, greatest, least
from anyseven.check_bounds import shows_any_greatest, shows_any_least, shows_greatest, shows_least
from anyseven.errors import BadBook, BadNumber, Impossible
from anyseven.kept import Ring, kept
from anyseven.papers import Denial
from anyseven.rows import Row
from anyseven.rules import Rule
from anyseven.sorts import sums
from tests.anew import is_low_ring, triples
from tests.anew_bounds import costs_between, ends_of, greatest_sum, least_sum, right_any_bound, right_bound
from tests.support import NO_INTEGERS, NO_LISTS, Case
from tests.test_books import NO_BOOKS

CALLS = ((greatest, shows_greatest, 1), (least, shows_least, -1))
ANY_CALLS = ((any_greatest, shows_any_greatest, 1), (any_least, shows_any_least, -1))
LOSE, GAIN = Rule(3, None, -1), Rule(5, 1)
NEVER = Book(7, [LOSE, GAIN])
WEEKS = [Rule(5, None, 12), Rule(7, 16)]


def kept_books(seed, count, most_days=7, most_rules=4, slack=3):
    """Books that some row keeps: rules about the sums of a row, each with some room."""
    chance = random.Random(seed)
    for _ in range(count):
        days = chance.randint(1, most_days)
        row = Row([chance.randint(-slack, slack) for _ in range(days)])
        rules = []
        for _ in range(chance.randint(0, most_rules)):
            length = chance.randint(1, days + 1)
            found = sums(row, length) if length <= days else (0,)
            low, high = min(found) - chance.randint(0, slack), max(found) + chance.randint(0, slack)
            rules.append(Rule(length, *chance.choice(((low, None), (None, high), (low, high)))))
        yield Book(days, rules)


def stretches(days):
    return [(begin, length) for begin in range(days) for length in range(1, days - begin + 1)]


class OneStretch(Case):

    def right(self, book, begin, length, call, shows, sign):
        """The number, None if there is none; the paper is looked at."""
        paper = call(book, begin, length)
        self.assertTrue(right_bound(book, begin, length, sign, paper), (str(book), begin, length, paper.parts))
        self.is_same(shows(book, begin, length, paper), True)
        self.is_same(call(length=length, begin=begin, book=book) == paper, True)
        if type(paper) is Bound:
            self.is_same((paper.word, paper.parts, bool(paper)), ("bound", (paper.number, paper.way, paper.row), True))
            self.assertTrue(all(abs(height) < 10 ** 60 for height in paper.row.heights))
            return paper.number
        self.assertIs(type(paper), Unbound)
        self.is_same((paper.word, paper.parts, bool(paper)), ("unbound", (paper.places,), False))
        self.assertTrue(isinstance(paper, Denial))
        return None

    def test_against_least_costs(self):
        seen = [0, 0]
        for book in kept_books(201, 150):
            costs = costs_between(book.days, triples(book.rules))
            for begin, length in stretches(book.days):
                for (call, shows, sign), sum_by in zip(CALLS, (greatest_sum, least_sum)):
                    number = self.right(book, begin, length, call, shows, sign)
                    self.is_same(number, sum_by(costs, begin, length))
                    seen[number is None] += 1
                    if number is None:
                        first = ends_of(begin, length, sign)[0]
                        places = tuple(place for place in range(book.days + 1) if (first, place) in costs)
                        self.is_same(call(book, begin, length).places, places)
        self.assertGreater(min(seen), 1000)

    def test_no_row_goes_beyond(self):
        for book in kept_books(202, 25, 4, 4, 2):
            rows = [row for row in map(Row, product(range(-4, 5), repeat=book.days)) if book.keeps(row)]
            for begin, length in stretches(book.days):
                most, fewest = greatest(book, begin, length), least(book, begin, length)
                for row in rows:
                    self.assertTrue(not most or row.sum_of(begin, length) <= most.number)
                    self.assertTrue(not fewest or row.sum_of(begin, length) >= fewest.number)

    def test_all_sums_between_are_had(self):
        for book in kept_books(203, 60, 4, 3, 2):
            # All gains are from -3 to 3, so all rows that keep the book are gone through.
            book = book.with_rule(Rule(1, -3, 3))
            rows = [row for row in map(Row, product(range(-3, 4), repeat=book.days)) if book.keeps(row)]
            for begin, length in stretches(book.days) if rows else ():
                had = {row.sum_of(begin, length) for row in rows}
                right = range(least(book, begin, length).number, greatest(book, begin, length).number + 1)
                self.is_same(sorted(had), list(right))

    def test_books_without_rules(self):
        for days in (1, 2, 48):
            for begin, length in ((0, 1), (0, days), (days - 1, 1)):
                self.is_same(greatest(Book(days, []), begin, length), Unbound((begin,)))
                self.is_same(least(Book(days, []), begin, length), Unbound((begin + length,)))

    def test_rules_of_more_days_than_the_book(self):
        book = Book(3, [Rule(4, 1, 2), Rule(48, None, 0), Rule(1, None, 5)])
        self.is_same(greatest(book, 0, 3).parts[:2], (15, ((0, 2, 1), (1, 2, 1), (2, 2, 1))))
        self.is_same(least(book, 0, 3), Unbound((3,)))
        self.is_same(least(book, 1, 1), Unbound((2, 3)))

    def test_one_bound_alone(self):
        book = Book(4, [Rule(2, None, 3)])
        self.is_same(greatest(book, 0, 4).number, 6)
        self.is_same(greatest(book, 0, 2).parts[:2], (3, ((0, 0, 1),)))
        self.is_same(greatest(book, 0, 1), Unbound([0, 2, 4]))
        self.is_same(least(book, 0, 2), Unbound([2, 4]))
        self.is_same(greatest(book.turned(), 0, 2), Unbound([0]))
        self.is_same(least(book.turned(), 0, 2).parts[:2], (-3, ((2, 0, -1),)))

    def test_equal_rules(self):
        book = Book(2, [Rule(1, 0, 2), Rule(1, 0, 2), Rule(1, None, 1), Rule(1, None, 1)])
        self.is_same(greatest(book, 0, 2).number, 2)
        self.is_same(least(book, 0, 2).number, 0)

    def test_a_rule_more(self):
        for book in kept_books(204, 60, 5):
            for rule in (Rule(1, None, 3), Rule(2, -6), Rule(3, -9, 9)):
                more = book.with_rule(rule)
                if kept(more):
                    for begin, length in stretches(book.days):
                        self.no_farther(more, begin, book, begin, length)

    def no_farther(self, one, begin, other, at, length):
        """The stretch in the one has no greater greatest sum, and no less least sum, than that in the other."""
        for call, _, sign in CALLS:
            told = call(other, at, length)
            if told:
                found = call(one, begin, length)
                self.assertTrue(found and found.number * sign <= told.number * sign)

    def test_parts_and_more_days(self):
        for book in kept_books(205, 40, 6):
            for days in range(1, book.days):
                part = book.with_days(days)
                for begin, length in stretches(days):
                    self.no_farther(book, begin, part, begin, length)
                    self.no_farther(book, begin + book.days - days, part, begin, length)

    def test_end_to_end(self):
        for book in kept_books(206, 40, 6):
            for begin, length in stretches(book.days):
                for more in range(1, book.days - begin - length + 1):
                    for call, _, sign in CALLS:
                        one, other = call(book, begin, length), call(book, begin + length, more)
                        if one and other:
                            both = call(book, begin, length + more)
                            self.assertTrue(both and both.number * sign <= (one.number + other.number) * sign)

    def test_backwards_turned_and_times(self):
        for book in kept_books(207, 60, 6):
            times = Book(book.days, [rule.times(7) for rule in book.rules])
            for begin, length in stretches(book.days):
                for (call, _, _), (contrary, _, _) in zip(CALLS, CALLS[::-1]):
                    paper = call(book, begin, length)
                    number = paper.number if paper else None
                    back = call(book, book.days - begin - length, length)
                    self.is_same(back.number if back else None, number)
                    turned = contrary(book.turned(), begin, length)
                    self.is_same(-turned.number if turned else None, number)
                    often = call(times, begin, length)
                    self.is_same(often.number if often else None, None if number is None else 7 * number)

    def test_books_that_no_row_keeps(self):
        for call, _, _ in CALLS:
            for begin, length in stretches(7):
                with self.assertRaises(Impossible) as caught:
                    call(NEVER, begin, length)
                paper = caught.exception.paper
                self.is_same((type(paper), is_low_ring(7, triples(NEVER.rules), paper.steps)), (Ring, True))
                self.is_same(paper, kept(NEVER))
            self.assertIn(type(call(NEVER.with_days(6), 0, 5)), (Bound, Unbound))

    def test_wrong_arguments(self):
        for call, _, _ in CALLS:
            for book in (NEVER, Book(7, [])):
                for value in NO_INTEGERS + (-1, 7, 8, 10 ** 70):
                    self.refuses(BadNumber("begin"), call, book, value, 1)
                    self.refuses(BadNumber("begin"), call, book, value, None)
                for value in NO_INTEGERS + (0, -1, 8, 10 ** 70):
                    self.refuses(BadNumber("length"), call, book, 0, value)
                for begin in range(7):
                    self.refuses(BadNumber("length"), call, book, begin, 8 - begin)
            for value in NO_BOOKS[:-2] + NO_LISTS + (LOSE, Row([1])):
                self.refuses(BadBook("book"), call, value, 0, 1)
                self.refuses(BadBook("book"), call, value, None, None)


class AnyStretch(Case):

    def right(self, book, length, call, shows, sign):
        """The number, None if there is none; the paper is looked at."""
        paper = call(book, length)
        self.assertTrue(right_any_bound(book, length, sign, paper), (str(book), length, paper.parts))
        self.is_same(shows(book, length, paper), True)
        self.is_same(call(length=length, book=book) == paper, True)
        if type(paper) is AnyBound:
            parts = (paper.number, paper.begin, paper.row, paper.ways)
            self.is_same((paper.word, paper.parts, bool(paper)), ("anybound", parts, True))
            return paper.number, paper.begin
        self.assertIs(type(paper), AnyUnbound)
        self.is_same((paper.word, paper.parts, bool(paper)), ("anyunbound", (paper.begin, paper.places), False))
        self.assertTrue(isinstance(paper, Denial))
        return None, paper.begin

    def test_against_each_stretch(self):
        seen = [0, 0]
        for book in kept_books(211, 150):
            costs = costs_between(book.days, triples(book.rules))
            for length in range(1, book.days + 1):
                begins = range(book.days - length + 1)
                for (call, shows, sign), one, sum_by in zip(ANY_CALLS, (greatest, least), (greatest_sum, least_sum)):
                    numbers = [sum_by(costs, begin, length) for begin in begins]
                    number, begin = self.right(book, length, call, shows, sign)
                    seen[number is None] += 1
                    if None in numbers:
                        self.is_same((number, begin), (None, numbers.index(None)))
                        self.is_same(call(book, length).places, one(book, begin, length).places)
                    else:
                        right = max(numbers) if sign == 1 else min(numbers)
                        self.is_same((number, begin), (right, numbers.index(right)))
                        self.is_same(call(book, length).row.sum_of(begin, length), right)
        self.assertGreater(min(seen), 200)

    def test_edges(self):
        for days in (1, 48):
            self.is_same(any_greatest(Book(days, []), days), AnyUnbound(0, (0,)))
            self.is_same(any_least(Book(days, []), days), AnyUnbound(0, (days,)))
            paper = any_greatest(Book(days, [Rule(1, None, 3)]), 1)
            self.is_same(paper.parts[:2], (3, 0))
            self.is_same(paper.ways, tuple(((place, 0, 1),) for place in range(days)))
        self.is_same(any_least(Book(11, WEEKS), 2).number, 4)
        self.is_same(any_least(Book(10, WEEKS), 2), AnyUnbound(4, (6,)))
        self.is_same(any_greatest(Book(5, [Rule(2, None, 1), Rule(3, None, 4)]), 5).parts[:2], (5, 0))

    def test_books_that_no_row_keeps(self):
        for call, _, _ in ANY_CALLS:
            for length in range(1, 8):
                with self.assertRaises(Impossible) as caught:
                    call(NEVER, length)
                self.is_same(caught.exception.paper, kept(NEVER))

    def test_wrong_arguments(self):
        for call, _, _ in ANY_CALLS:
            for value in NO_INTEGERS + (0, -1, 8, 48, 10 ** 70):
                self.refuses(BadNumber("length"), call, NEVER, value)
                self.refuses(BadNumber("length"), call, Book(7, []), value)
            for value in NO_BOOKS:
                if not isinstance(value, Book):
                    self.refuses(BadBook("book"), call, value, 1)
                    self.refuses(BadBook("book"), call, value, None)


class Time(Case):

    def test_time(self):
        chance = random.Random(212)
        row = Row([chance.randint(-999999, 999999) for _ in range(48)])
        rules = [Rule(length, min(sums(row, length)) // 2 * 2, max(sums(row, length))) for length in (1, 2, 3, 5, 7, 11, 13, 17)]
        book = Book(48, rules)
        begun = perf_counter()
        for length in (1, 4, 24, 47):
            any_greatest(book, length), any_least(book, length), greatest(book, 0, length), least(book, 0, length)
        self.assertLess(perf_counter() - begun, 3)

    def test_numbers_of_nine_digits(self):
        much = 10 ** 9 - 1
        book = Book(48, [Rule(7, None, much), Rule(11, -much), Rule(13, -much, much)])
        for call in (greatest, least):
            for begin, length in ((0, 1), (20, 3), (0, 48)):
                paper = call(book, begin, length)
                if paper:
                    self.assertTrue(all(abs(height) < 10 ** 60 for height in paper.row.heights))
