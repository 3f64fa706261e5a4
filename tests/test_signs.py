"""Points 2, 4 and 5: rules and books of gains and losses."""

import random

from anyseven.books import Book, Empty
from anyseven.errors import BadLot, BadNumber, Impossible, TooMany, Twice
from anyseven.rows import Row
from anyseven.rules import Rule
from anyseven.signs import gaining, losing, sign_book
from anyseven.sorts import sort_of
from tests.support import NO_INTEGERS, NO_LISTS, NO_LISTS_OF_INTEGERS, Case

NO_LOTS = NO_LISTS + NO_LISTS_OF_INTEGERS + ([0], [49], [1, -1], (48, 49), [1, 1, 0], [2, 2, True], [10 ** 70])


class Rules(Case):

    def test_rules(self):
        for lengths in ([], (), [1], [48], [5, 3], (3, 5), [48, 1, 24, 2], list(range(48, 0, -1))):
            self.is_same(gaining(lengths), tuple(Rule(length, 1) for length in sorted(lengths)))
            self.is_same(losing(lengths), tuple(Rule(length, None, -1) for length in sorted(lengths)))
        self.is_same(gaining(lengths=[2]), (Rule(2, 1, None),))
        self.is_same(losing(lengths=[2]), (Rule(2, None, -1),))

    def test_what_is_passed_stays(self):
        lengths = [5, 3]
        gaining(lengths), losing(lengths), sign_book(3, lengths, lengths)
        self.assertEqual(lengths, [5, 3])

    def test_what_is_no_lot(self):
        for call in (gaining, losing):
            for value in NO_LOTS:
                self.refuses(BadLot("lengths"), call, value)
            for value, twice in (([1, 1], 1), ((3, 2, 2, 3), 2), ([5, 4, 5, 4], 5)):
                self.refuses(Twice(twice), call, value)

    def test_kept_just_by_the_sort(self):
        chance = random.Random(11)
        for _ in range(400):
            row = Row([chance.randint(-2, 2) for _ in range(chance.randint(1, 7))])
            for length in range(1, len(row) + 1):
                self.is_same(gaining([length])[0].keeps(row), sort_of(row, length) == "gains")
                self.is_same(losing([length])[0].keeps(row), sort_of(row, length) == "loses")


class Books(Case):

    def test_books(self):
        for days in (1, 16, 48):
            for gains, losses in (
                    ([], []), ([11], [7]), ((5, 3), [4, 1]), ([2], (2,)), ([4, 3, 2, 1], [48, 47, 46, 45]),
                    (list(range(8, 0, -1)), []), ((), range(1, 9))):
                losses = list(losses)
                right = Book(days, gaining(gains) + losing(losses))
                self.is_same(sign_book(days, gains, losses), right)
                self.is_same(sign_book(losing=losses, gaining=gains, days=days), right)

    def test_two_that_leave_nothing(self):
        self.refuses(Impossible(Empty(1, 3)), sign_book(4, (2, 4), (4, 3)).together)
        self.is_same(sign_book(1, (2,), (2,)).together(), Book(1, []))

    def test_what_is_passed(self):
        for value in NO_INTEGERS + (0, -1, 49):
            self.refuses(BadNumber("days"), sign_book, value, [1], [2])
            self.refuses(BadNumber("days"), sign_book, value, None, None)
        for value in NO_LOTS:
            self.refuses(BadLot("gaining"), sign_book, 4, value, [2])
            self.refuses(BadLot("gaining"), sign_book, 4, value, None)
            self.refuses(BadLot("gaining"), sign_book, 4, value, list(range(1, 20)))
            self.refuses(BadLot("losing"), sign_book, 4, [2], value)
            self.refuses(BadLot("losing"), sign_book, 4, list(range(1, 20)), value)
            self.refuses(Twice(2), sign_book, 4, [2, 2], value)
        self.refuses(Twice(2), sign_book, 4, [1, 2, 2], [3, 3])
        self.refuses(Twice(3), sign_book, 4, list(range(1, 10)), [3, 3])
        self.refuses(TooMany("rules", 8), sign_book, 4, list(range(1, 10)), [])
        self.refuses(TooMany("rules", 8), sign_book, 4, [1, 2, 3, 4], [1, 2, 3, 4, 5])
