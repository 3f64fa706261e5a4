"""Points 2 and 15: the choices of sayings, of their contraries, and how many a book has."""

import random
from itertools import product

from anyseven.choices import choices_of, contrary_of, many_choices
from anyseven.errors import BadBook, BadNumber, BadSaying, Misfit, TooMany
from anyseven.rules import Rule
from anyseven.sayingbooks import SayingBook
from anyseven.sayings import Just, Some, Told
from tests.anew_sayings import book_of, choices, contrary, keeps, made, some_books, some_saying, within
from tests.support import Case
from tests.test_sayingbooks import NO_BOOKS, NO_DAYS
from tests.test_sayings import NO_SAYINGS, some_rows


def keeps_choice(gains, choice):
    return all(within(sum(gains[begin:begin + length]), low, high) for begin, length, low, high in choice)


class Choices(Case):

    def test_against_lists(self):
        chance = random.Random(891)
        seen = {}
        for _ in range(600):
            days = chance.randint(1, 12)
            saying = some_saying(chance, days)
            for call, listed in ((choices_of, choices(days, saying)), (contrary_of, contrary(days, saying))):
                seen[saying[0], call, min(len(listed), 3)] = True
                if len(listed) > 400:
                    self.refuses(TooMany("choices", 400), call, days, made(saying))
                else:
                    self.is_same(call(days, made(saying)), tuple(listed))
                    self.is_same(call(saying=made(saying), days=days), tuple(listed))
        self.assertGreater(len(seen), 18)

    def test_rows_keep_a_saying_by_one_of_its_choices(self):
        chance = random.Random(892)
        for days in (1, 2, 4, 6):
            for _ in range(60):
                saying = some_saying(chance, days)
                for gains in some_rows(chance, days, 8):
                    right = keeps(gains, saying)
                    self.is_same(any(keeps_choice(gains, choice) for choice in choices_of(days, made(saying))), right)
                    self.is_same(any(keeps_choice(gains, choice) for choice in contrary_of(days, made(saying))), not right)

    def test_lengths_without_begins(self):
        for days in (1, 3, 12):
            for length in (days + 1, 13, 48):
                self.is_same([choices_of(days, saying) for saying in (Rule(length, 0), Some(length, 0, 1), Just(length, 0))], [((),), (), ()])
                self.is_same([contrary_of(days, saying) for saying in (Rule(length, 0, 1), Some(length, 0, 1), Just(length, 0))], [(), ((),), ((),)])
                self.is_same(contrary_of(days, Some(length, None, 1)), ((),))

    def test_orders(self):
        self.is_same(contrary_of(3, Rule(2, 0, 5)), (((0, 2, None, -1),), ((1, 2, None, -1),), ((0, 2, 6, None),), ((1, 2, 6, None),)))
        self.is_same(contrary_of(2, Told(0, 2, 0, 5)), (((0, 2, None, -1),), ((0, 2, 6, None),)))
        below, above = (None, -1), (2, None)
        self.is_same(contrary_of(4, Some(2, 0, 1)), tuple(
            ((0, 2, *one), (1, 2, *two), (2, 2, *three)) for one, two, three in product((below, above), repeat=3)))
        self.is_same(choices_of(3, Just(2, 7)), tuple(
            ((one, 2, None, 7), (other, 2, 7, None)) for one in (0, 1) for other in (0, 1)))
        self.is_same(contrary_of(3, Just(2, 7)), (((0, 2, None, 6), (1, 2, None, 6)), ((0, 2, 8, None), (1, 2, 8, None))))

    def test_edges(self):
        self.is_same(len(choices_of(12, Just(1, 0))), 144)
        self.is_same(len(contrary_of(12, Some(5, 0, 0))), 256)
        self.refuses(TooMany("choices", 400), contrary_of, 12, Some(4, 0, 0))
        self.refuses(TooMany("choices", 400), contrary_of, 9, Some(1, 0, 0))
        self.is_same(len(contrary_of(8, Some(1, 0, 0))), 256)
        self.is_same(len(contrary_of(12, Some(1, 0))), 1)
        self.is_same(choices_of(1, Told(0, 1, None, 4)), (((0, 1, None, 4),),))

    def test_wrong_arguments(self):
        for call in (choices_of, contrary_of):
            for value in NO_DAYS:
                self.refuses(BadNumber("days"), call, value, Some(1, 0))
                self.refuses(BadNumber("days"), call, value, None)
                self.refuses(BadNumber("days"), call, saying=Told(20, 1, 0), days=value)
            for value in NO_SAYINGS:
                self.refuses(BadSaying("saying"), call, 12, value)
            for days, begin, length in ((3, 0, 4), (3, 3, 1), (12, 11, 2), (1, 47, 48)):
                self.refuses(Misfit("days"), call, days, Told(begin, length, 0))


class Many(Case):

    def test_products(self):
        for days, sayings in some_books(893, 300, 12, 8, 10 ** 18):
            many = 1
            for saying in sayings:
                many *= len(choices(days, saying))
            self.is_same(many_choices(book_of(days, sayings)), many)
            self.is_same(many_choices(book=book_of(days, sayings)), many)

    def test_edges(self):
        self.is_same(many_choices(SayingBook(1, [])), 1)
        self.is_same(many_choices(SayingBook(12, [Just(1, 0)] * 8)), 144 ** 8)
        self.is_same(many_choices(SayingBook(12, [Just(1, 0)] * 7 + [Some(13, 0)])), 0)
        self.is_same(many_choices(SayingBook(2, [Rule(3, 1)] * 8)), 1)

    def test_no_books(self):
        for value in NO_BOOKS:
            self.refuses(BadBook("book"), many_choices, value)
