"""Point 16: idle sayings, quarrels of saying books, and one saying wrong."""

import random
from itertools import combinations
from time import perf_counter

from anyseven.books import Book
from anyseven.choices import many_choices
from anyseven.errors import BadBook, Impossible, TooMany
from anyseven.idle import idle, one_wrong, saying_quarrels
from anyseven.kept import kept
from anyseven.needless import needless
from anyseven.quarrels import quarrels
from anyseven.rules import Rule
from anyseven.sayingbooks import SayingBook
from anyseven.sayings import Just, Some, Told
from anyseven.unseen import Barred, judged, some_row
from tests.anew_sayings import book_lists, book_of, can_be, choices, contrary, made, some_books, some_saying
from tests.support import Case
from tests.test_sayingbooks import NO_BOOKS

UNLIKE = SayingBook(2, [Rule(1, 1), Told(0, 2, None, 0), Some(1, None, 0)])


def all_quarrels(days, sayings):
    """All quarrels, by looking at all choices of sayings."""
    kept_sets, found = {}, []
    for many in range(len(sayings) + 1):
        for numbers in combinations(range(len(sayings)), many):
            kept_sets[numbers] = can_be(days, book_lists(days, [sayings[number] for number in numbers]))
            fewer = [numbers[:at] + numbers[at + 1:] for at in range(many)]
            if not kept_sets[numbers] and all(kept_sets[some] for some in fewer):
                found.append(numbers)
    return tuple(found)


def idle_numbers(days, sayings):
    found = []
    for number, saying in enumerate(sayings):
        lists = book_lists(days, sayings)
        lists[number] = contrary(days, saying)
        if not can_be(days, lists):
            found.append(number)
    return tuple(found)


def most_with_contrary(days, sayings):
    """The most choices of the book, and of it with one contrary in the place of a saying."""
    counts = [len(choices(days, saying)) for saying in sayings]
    products = []
    for number in range(-1, len(sayings)):
        many = 1
        for at, count in enumerate(counts):
            many *= len(contrary(days, sayings[at])) if at == number else count
        products.append(many)
    return max(products)


class Idle(Case):

    def test_against_all_choices(self):
        seen = {"idle": 0, "none": 0, "barred": 0, "many": 0}
        for days, sayings in some_books(921, 400, 4, 4, 120):
            book = book_of(days, sayings)
            if most_with_contrary(days, sayings) > 400:
                seen["many"] += 1
                self.refuses(TooMany("choices", 400), idle, book)
            elif not can_be(days, book_lists(days, sayings)):
                seen["barred"] += 1
                self.refuses(Impossible(some_row(book)), idle, book)
            else:
                right = idle_numbers(days, sayings)
                seen["idle" if right else "none"] += 1
                self.is_same(idle(book), right)
                self.is_same(idle(book=book), right)
        self.assertGreater(min(seen["idle"], seen["none"], seen["barred"]), 20)

    def test_what_is_always_so_without_it(self):
        for days, sayings in some_books(922, 60, 4, 4, 20):
            book = book_of(days, sayings)
            if some_row(book) and most_with_contrary(days, sayings) <= 400:
                numbers = idle(book)
                for number, saying in enumerate(book.sayings):
                    self.is_same(judged(book.without([number]), saying).word == "always", number in numbers)

    def test_books_of_rules(self):
        chance = random.Random(923)
        for _ in range(80):
            days = chance.randint(1, 9)
            rules = [made(some_saying(chance, days, 1, kinds="any")) for _ in range(chance.randint(0, 5))]
            if kept(Book(days, rules)):
                self.is_same(idle(SayingBook(days, rules)), needless(Book(days, rules)))

    def test_edges(self):
        self.is_same(idle(SayingBook(4, [Rule(1, 0), Some(2, 0), Rule(2, 0)])), (1, 2))
        self.is_same(idle(SayingBook(3, [])), ())
        self.is_same(idle(SayingBook(3, [Rule(4, 9)])), (0,))
        self.is_same(idle(SayingBook(3, [Rule(1, 0), Rule(1, 0)])), (0, 1))
        self.is_same(idle(SayingBook(3, [Rule(4, 9)] * 8)), tuple(range(8)))
        self.refuses(Impossible(Barred(())), idle, SayingBook(3, [Some(4, 0), Rule(1, 0)]))

    def test_too_many_choices(self):
        self.refuses(TooMany("choices", 400), idle, SayingBook(12, [Just(1, 0)] * 2))
        # The contrary of the one has 512 choices.
        self.refuses(TooMany("choices", 400), idle, SayingBook(9, [Some(1, 0, 0)]))
        self.is_same(idle(SayingBook(8, [Some(1, 0, 0)])), ())
        # 12 times 12 with the rule, 12 times 144 with its contrary.
        self.refuses(TooMany("choices", 400), idle, SayingBook(12, [Some(1, 0), Some(1, 1), Rule(1, 0)]))
        # Ahead of what no row keeps; a saying without a choice has a contrary with one.
        self.refuses(TooMany("choices", 400), idle, SayingBook(12, [Some(13, 0), Just(1, 0), Just(2, 0)]))
        self.refuses(Impossible(Barred(())), idle, SayingBook(12, [Some(13, 0), Just(1, 0)]))


class Quarrels(Case):

    def test_against_all_choices(self):
        seen = [0, 0]
        for days, sayings in some_books(931, 250, 4, 5, 80):
            book, right = book_of(days, sayings), all_quarrels(days, sayings)
            seen[right == ()] += 1
            self.is_same(saying_quarrels(book), right)
            self.is_same(saying_quarrels(book=book), right)
            self.is_same(bool(some_row(book)), right == ())
            wrong = tuple(
                number for number in range(len(sayings))
                if can_be(days, book_lists(days, sayings[:number] + sayings[number + 1:])))
            self.is_same(one_wrong(book), wrong)
            self.is_same(one_wrong(book=book), wrong)
            # Some row keeps the book without one saying exactly if this one is in all quarrels.
            self.is_same(wrong, tuple(number for number in range(len(sayings)) if all(number in quarrel for quarrel in right)))
        self.assertGreater(min(seen), 40)

    def test_one_saying_alone(self):
        for days, sayings in some_books(932, 150, 4, 4, 80):
            for number, saying in enumerate(sayings):
                alone = saying[0] in ("some", "just") and saying[1] > days
                self.is_same((number,) in saying_quarrels(book_of(days, sayings)), alone)

    def test_books_of_rules(self):
        chance = random.Random(933)
        seen = [0, 0]
        for _ in range(80):
            days = chance.randint(1, 12)
            rules = [made(some_saying(chance, days, slack=1, kinds="any")) for _ in range(chance.randint(0, 6))]
            right = quarrels(Book(days, rules))
            seen[right == ()] += 1
            self.is_same(saying_quarrels(SayingBook(days, rules)), right)
        self.assertGreater(min(seen), 10)

    def test_turned_and_backwards(self):
        for days, sayings in some_books(934, 50, 5, 5, 60):
            book = book_of(days, sayings)
            for other in (book.turned(), book.backwards()):
                self.is_same((saying_quarrels(other), one_wrong(other)), (saying_quarrels(book), one_wrong(book)))

    def test_edges(self):
        self.is_same((saying_quarrels(UNLIKE), one_wrong(UNLIKE)), (((0, 1), (0, 2)), (0,)))
        self.is_same((saying_quarrels(SayingBook(1, [])), one_wrong(SayingBook(1, []))), ((), ()))
        self.is_same((saying_quarrels(SayingBook(3, [Some(4, 0)])), one_wrong(SayingBook(3, [Some(4, 0)]))), (((0,),), (0,)))
        two = SayingBook(3, [Some(4, 0), Rule(1, 0), Just(48, 0)])
        self.is_same((saying_quarrels(two), one_wrong(two)), (((0,), (2,)), ()))
        eight = SayingBook(2, [Told(0, 1, 1), Told(0, 1, None, 0)] * 4)
        self.is_same(len(saying_quarrels(eight)), 16)
        self.is_same(one_wrong(eight), ())
        self.is_same(one_wrong(SayingBook(2, [Rule(1, 0)] * 8)), tuple(range(8)))

    def test_too_many_choices(self):
        for call in (saying_quarrels, one_wrong):
            self.refuses(TooMany("choices", 400), call, SayingBook(12, [Just(1, 0)] * 2))
            # Sayings without a choice are left out.
            self.refuses(TooMany("choices", 400), call, SayingBook(12, [Just(1, 0), Some(13, 0), Just(2, 0)]))
            self.is_same(type(call(SayingBook(12, [Just(1, 0), Some(13, 0), Just(13, 0)]))), tuple)
            self.is_same(many_choices(SayingBook(12, [Just(3, 0), Some(9, 0)])), 400)
            self.is_same(call(SayingBook(12, [Just(3, 0), Some(9, 0)])), () if call is saying_quarrels else (0, 1))


class Wrong(Case):

    def test_no_books(self):
        for call in (idle, saying_quarrels, one_wrong):
            for value in NO_BOOKS + (Book(3, []),):
                self.refuses(BadBook("book"), call, value)
                self.refuses(BadBook("book"), call, book=value)


class Time(Case):

    def books(self):
        """Saying books of 12 days with 8 sayings and nearly 400 choices: that are just kept, and just not."""
        chance = random.Random(941)
        slow = ([Just(6, 1), Some(5, 1)], [Just(1, 1), Told(0, 12, 1)], [Some(1, 9, 9), Some(2, 9, 9), Some(11, 9)], [Some(2, 5), Just(9,
            6), Some(11, 7, 7)])
        for sayings in slow:
            for slack in (0, 1, 2, 10, 10 ** 6):
                rules = [Rule(length, -slack - chance.randint(0, 2), slack + chance.randint(0, 2)) for length in (1, 2, 3, 5, 7, 12)]
                yield SayingBook(12, (rules + sayings)[-8:])

    def test_time(self):
        for book in self.books():
            for call in (idle, saying_quarrels, one_wrong, some_row):
                begun = perf_counter()
                try:
                    call(book)
                except (Impossible, TooMany):
                    pass
                self.assertLess(perf_counter() - begun, 2)
