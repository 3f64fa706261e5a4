"""Point 6: quarrels of a book."""

import random
from time import perf_counter

from anyseven.books import Book
from anyseven.errors import BadBook, TooMany
from anyseven.quarrels import quarrels
from anyseven.rules import Rule
from anyseven.signs import sign_book
from tests.anew import all_quarrels, can_keep, tight_rules, triples
from tests.support import Case
from tests.test_books import NO_BOOKS
from tests.test_kept import random_book

# Highs of 1, 2, 4 and 8 days, each a little less than twice the one ahead of it, and a low of all fifteen days that
# is just too great for one of each.
FIVE = [Rule(1, None, 10), Rule(2, None, 19), Rule(4, None, 37), Rule(8, None, 73), Rule(15, 140)]


class Quarrels(Case):

    def right(self, book):
        found = quarrels(book)
        self.is_same(found, all_quarrels(book.days, triples(book.rules)))
        return found

    def test_against_all_choices_of_rules(self):
        chance = random.Random(21)
        seen = {}
        for _ in range(300):
            days = chance.randint(1, 7)
            book = Book(days, tight_rules(chance, days, chance.randint(0, 6), chance.choice((1, 2, 3))))
            for numbers in self.right(book):
                seen[len(numbers)] = seen.get(len(numbers), 0) + 1
        self.assertTrue(seen[2] > 150 and seen[3] > 8, seen)

    def test_what_each_of_them_is(self):
        chance = random.Random(22)
        for _ in range(40):
            days = chance.randint(8, 24)
            book = Book(days, tight_rules(chance, days, 8, 4))
            rules, found = triples(book.rules), quarrels(book)
            self.is_same(found, tuple(sorted(sorted(found), key=len)))
            self.assertEqual(len(found), len(set(found)))
            self.is_same(found == (), can_keep(book.days, rules))
            for numbers in found:
                self.is_same(numbers, tuple(sorted(set(numbers))))
                self.assertGreater(len(numbers), 1)
                self.assertFalse(can_keep(book.days, [rules[number] for number in numbers]))
                for number in numbers:
                    self.assertTrue(can_keep(book.days, [rules[at] for at in numbers if at != number]))

    def test_kept_books(self):
        for days in (1, 2, 23, 24):
            for rules in ([], [Rule(1, 1)], [Rule(2, None, -1)], [Rule(length, None, -length) for length in range(1, 9)],
                          [Rule(length, length) for length in range(1, 9)], [Rule(24, 5, 5)] * 8,
                          [Rule(days + 1, 4), Rule(days + 1, None, 3)]):
                self.is_same(quarrels(Book(days, rules)), ())
                self.is_same(quarrels(book=Book(days, rules)), ())

    def test_equal_rules_stand_each_for_itself(self):
        gain, lose, wide = Rule(2, 1), Rule(3, None, -1), Rule(1, -9, 9)
        self.is_same(quarrels(Book(4, [gain, lose, gain, wide, lose])), ((0, 1), (0, 4), (1, 2), (2, 4)))
        self.is_same(quarrels(Book(3, [gain, lose, gain, wide, lose])), ())
        self.is_same(quarrels(Book(3, [Rule(3, 4), Rule(3, None, 3), Rule(3, 5)])), ((0, 1), (1, 2)))

    def test_fewer_rules_come_first(self):
        rules = [Rule(1, None, 2), Rule(2, None, 3), Rule(3, 6), Rule(3, None, 5)]
        self.is_same(self.right(Book(3, rules)), ((2, 3), (0, 1, 2)))
        self.is_same(self.right(Book(3, rules[::-1])), ((0, 1), (1, 2, 3)))

    def test_in_another_order_they_are_the_same(self):
        chance = random.Random(23)
        for _ in range(30):
            book = Book(9, tight_rules(chance, 9, 6, 4))
            order = chance.sample(range(6), 6)
            other = quarrels(Book(9, [book.rules[number] for number in order]))
            again = [tuple(sorted(order[at] for at in numbers)) for numbers in other]
            self.is_same(tuple(sorted(sorted(again), key=len)), quarrels(book))
            self.is_same(quarrels(book.turned()), quarrels(book))

    def test_a_quarrel_of_five(self):
        wide = Rule(3, None, 999)
        self.is_same(self.right(Book(15, FIVE)), ((0, 1, 2, 3, 4),))
        self.is_same(self.right(Book(15, FIVE[:2] + [wide] + FIVE[2:])), ((0, 1, 3, 4, 5),))
        self.is_same(self.right(Book(15, FIVE[:4] + [Rule(15, 139)])), ())
        self.is_same(self.right(Book(14, FIVE)), ())
        self.is_same(self.right(Book(15, FIVE[:4] + [Rule(15, 141)])), ((0, 1, 2, 4), (0, 1, 3, 4), (0, 2, 3, 4)))

    def test_a_quarrel_of_three(self):
        three = [Rule(3, None, -1), Rule(4, None, -1), Rule(5, 1)]
        self.is_same(quarrels(Book(5, three)), ())
        self.is_same(quarrels(Book(6, three)), ((0, 1, 2),))
        self.is_same(quarrels(Book(7, three)), ((0, 2),))
        self.is_same(quarrels(Book(8, three)), ((0, 2), (1, 2)))

    def test_as_long_as_two_lengths_last(self):
        for one, other in ((11, 7), (13, 12), (8, 12), (5, 5), (1, 4)):
            days = one + other - (4 if (one, other) == (8, 12) else 5 if one == 5 else 1)
            self.is_same(quarrels(sign_book(days, [one], [other])), ((0, 1),))
            self.is_same(quarrels(sign_book(days - 1, [one], [other])), ())

    def test_days(self):
        book = Book(48, [Rule(1, 1), Rule(1, None, 0)])
        for days in (1, 23, 24):
            self.is_same(quarrels(book.with_days(days)), ((0, 1),))
        for days in (25, 26, 48):
            self.refuses(TooMany("days", 24), quarrels, book.with_days(days))
            self.refuses(TooMany("days", 24), quarrels, Book(days, []))

    def test_what_is_no_book(self):
        for value in NO_BOOKS:
            self.refuses(BadBook("book"), quarrels, value)


class Long(Case):

    def test_24_days_with_eight_rules(self):
        chance = random.Random(24)
        books = [random_book(chance, 24, 8, spread) for spread in (3, 50, 10 ** 6 - 1) for _ in range(10)]
        books += [Book(24, [Rule(length, None, -length * length) for length in range(1, 8)] + [Rule(24, low)])
                  for low in (-600, -150, -144, -90)]
        books += [Book(24, [Rule(length, length * 10 ** 4, length * 10 ** 4 + 2) for length in range(1, 9)])]
        books += [Book(24, [Rule(length, 999999 - 3 * length) for length in range(1, 8)] + [Rule(24, None, -5)])]
        for book in books:
            begun = perf_counter()
            found = quarrels(book)
            self.assertLess(perf_counter() - begun, 3)
            self.is_same(found, quarrels(book))

    def test_many_at_once(self):
        rules = [Rule(1, 1)] * 4 + [Rule(1, None, 0)] * 4
        self.is_same(quarrels(Book(24, rules)), tuple((one, other) for one in range(4) for other in range(4, 8)))


if __name__ == "__main__":
    import unittest
    unittest.main()
