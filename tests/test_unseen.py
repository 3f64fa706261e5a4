"""Points 15 and 16: some row or none; always, never or open; a ring for each choice."""

import random
from itertools import product
from time import perf_counter

from anyseven.books import Book
from anyseven.choices import choices_of, contrary_of, many_choices
from anyseven.closed import closure
from anyseven.errors import BadBook, BadSaying, Impossible, Misfit, TooMany
from anyseven.follows import follows
from anyseven.kept import kept
from anyseven.papers import Denial
from anyseven.rules import Rule
from anyseven.sayingbooks import SayingBook
from anyseven.sayings import Just, Some, Told
from anyseven.unseen import Always, Barred, Found, Never, Open, judged, some_row
from tests.anew_sayings import (
    book_lists, book_of, can_be, keeps, made, right_judged, right_some_row, some_books, some_saying, verdict)
from tests.support import Case
from tests.test_sayingbooks import NO_BOOKS
from tests.test_sayings import NO_SAYINGS

THREE = SayingBook(3, [Rule(2, None, -1), Told(0, 3, 1)])


class SomeRow(Case):

    def right(self, days, sayings):
        book = book_of(days, sayings)
        paper = some_row(book)
        self.is_same(right_some_row(days, sayings, paper), True)
        self.is_same(some_row(book=book_of(days, sayings)), paper)
        if paper:
            self.is_same((type(paper), paper.word, paper.parts, isinstance(paper, Denial)), (Found, "found", (paper.row,), False))
        else:
            self.is_same((type(paper), paper.word, paper.parts, isinstance(paper, Denial)), (Barred, "barred", (paper.rings,), True))
        return bool(paper)

    def test_against_all_choices(self):
        seen = [0, 0]
        for days, sayings in some_books(901, 300):
            found = self.right(days, sayings)
            seen[found] += 1
            self.is_same(found, can_be(days, book_lists(days, sayings)))
        self.assertGreater(min(seen), 30)

    def test_no_row_with_small_gains_is_left_out(self):
        for days, sayings in some_books(902, 150, 3):
            paper = some_row(book_of(days, sayings))
            for gains in product(range(-3, 4), repeat=days):
                if all(keeps(gains, saying) for saying in sayings):
                    self.is_same(type(paper), Found)

    def test_more_days(self):
        seen = [0, 0]
        for days, sayings in some_books(903, 40, 12, 8):
            seen[self.right(days, sayings)] += 1
        self.assertGreater(min(seen), 5)

    def test_turned_and_backwards(self):
        for days, sayings in some_books(904, 80, 6):
            book = book_of(days, sayings)
            found = bool(some_row(book))
            self.is_same([bool(some_row(book.turned())), bool(some_row(book.backwards()))], [found, found])

    def test_books_of_rules(self):
        # A saying book of rules alone is kept exactly if the book of them is.
        chance = random.Random(905)
        seen = [0, 0]
        for _ in range(120):
            days = chance.randint(1, 12)
            sayings = [some_saying(chance, days, slack=1, kinds="any") for _ in range(chance.randint(0, 5))]
            rules = [made(saying) for saying in sayings]
            found = self.right(days, sayings)
            seen[found] += 1
            self.is_same(bool(kept(Book(days, rules))), found)
            if not found:
                rings = some_row(SayingBook(days, rules)).rings
                self.is_same(len(rings), 1)
        self.assertGreater(min(seen), 20)

    def test_edges(self):
        self.is_same([self.right(days, []) for days in (1, 2, 12)], [True] * 3)
        self.is_same(some_row(SayingBook(3, [Some(4, 0)])), Barred(()))
        self.is_same(some_row(SayingBook(3, [Just(48, 0)])), Barred([]))
        self.is_same(some_row(SayingBook(12, [Just(1, 0)] * 7 + [Some(13, 0)])), Barred(()))
        self.is_same(type(some_row(SayingBook(3, [Rule(4, 10 ** 9)] * 8))), Found)
        self.is_same(self.right(12, [("just", 1, 7), ("any", 1, 7, 7), ("some", 12, 84, 84)]), True)
        self.is_same(self.right(12, [("just", 1, 7), ("any", 1, None, 6)]), False)
        self.is_same(len(some_row(SayingBook(12, [Just(1, 7), Rule(1, None, 6)])).rings), 144)
        self.is_same(self.right(2, [("told", 0, 1, 1, None), ("told", 1, 1, 1, None), ("told", 0, 2, None, 1)]), False)

    def test_400_choices_and_more(self):
        self.is_same(many_choices(SayingBook(12, [Just(3, 0), Some(9, 0)])), 400)
        self.right(12, [("just", 3, 0), ("some", 9, 0, None)])
        for sayings in ([Just(3, 0), Some(9, 0), Some(12, 0), Some(11, 0)], [Just(1, 0)] * 2, [Some(1, 0)] * 3, [Just(1, 0)] * 8):
            self.assertGreater(many_choices(SayingBook(12, sayings)), 400)
            self.refuses(TooMany("choices", 400), some_row, SayingBook(12, sayings))

    def test_no_books(self):
        for value in NO_BOOKS + (Book(3, []),):
            self.refuses(BadBook("book"), some_row, value)


class Judged(Case):

    def right(self, days, sayings, saying):
        """The word of the paper, or of the denial that stops it."""
        book = book_of(days, sayings)
        if not can_be(days, book_lists(days, sayings)):
            self.refuses(Impossible(some_row(book)), judged, book, made(saying))
            return "barred"
        paper = judged(book, made(saying))
        self.is_same(right_judged(days, sayings, saying, paper), True)
        self.is_same(paper.word, verdict(days, sayings, saying))
        self.is_same(judged(saying=made(saying), book=book_of(days, sayings)) == paper, True)
        kind, parts = {"always": (Always, 1), "never": (Never, 1), "open": (Open, 2)}[paper.word]
        self.is_same((type(paper), len(paper.parts), bool(paper), isinstance(paper, Denial)), (kind, parts, kind is not Never, kind is Never))
        names = ("one", "other") if kind is Open else ("rings",)
        self.is_same(tuple(getattr(paper, name) for name in names), paper.parts)
        return paper.word

    def test_against_all_choices(self):
        chance = random.Random(911)
        seen = {}
        for days, sayings in some_books(912, 250, 5, 4, 60):
            saying = some_saying(chance, days)
            if len(choices_of(days, made(saying))) * 60 <= 400 or chance.random() < 0.5:
                if many_choices(book_of(days, sayings)) * 32 <= 400:
                    word = self.right(days, sayings, saying)
                    seen[word] = seen.get(word, 0) + 1
        self.is_same(sorted(seen), ["always", "barred", "never", "open"])
        self.assertGreater(min(seen.values()), 8)

    def test_sayings_of_the_book_are_always_so(self):
        for days, sayings in some_books(913, 80, 4, 3, 12):
            if can_be(days, book_lists(days, sayings)):
                for saying in sayings:
                    self.is_same(self.right(days, sayings, saying), "always")

    def test_rules_that_follow(self):
        chance = random.Random(914)
        for _ in range(80):
            days = chance.randint(1, 8)
            rules = [made(some_saying(chance, days, 1, kinds="any")) for _ in range(chance.randint(1, 4))]
            if kept(Book(days, rules)):
                rule = made(some_saying(chance, days, 1, 4, kinds="any"))
                self.is_same(judged(SayingBook(days, rules), rule).word == "always", bool(follows(Book(days, rules), rule)))

    def test_turned_and_backwards(self):
        chance = random.Random(915)
        for days, sayings in some_books(916, 60, 5, 3, 12):
            saying = made(some_saying(chance, days, kinds="any some just"))
            book = book_of(days, sayings)
            if some_row(book) and many_choices(book) * len(contrary_of(days, saying)) <= 400:
                word = judged(book, saying).word
                self.is_same(judged(book.turned(), saying.turned()).word, word)
                self.is_same(judged(book.backwards(), saying).word, word)

    def test_just_0_of_level_rows(self):
        for days in range(1, 10):
            level = SayingBook(days, [Told(0, days, 0, 0)])
            for length in range(1, days):
                word = judged(level, Just(length, 0)).word
                self.is_same(word, "always" if days % length == 0 else "open")
                self.is_same(word == "open", bool(closure(days, [length])))
            self.is_same(judged(level, Just(days, 0)).word, "always")
            self.is_same(judged(level, Just(days, 1)).word, "never")

    def test_edges(self):
        book = SayingBook(3, [])
        self.is_same([judged(book, saying).word for saying in (Some(4, 0), Just(4, 0), Rule(4, 0), Just(3, 0), Some(3, 0))], [
            "never", "never", "always", "open", "open"])
        self.is_same(judged(book, Some(4, 0)), Never(()))
        self.is_same(judged(book, Rule(4, 0)), Always(()))
        self.is_same(judged(SayingBook(1, []), Rule(2, 1, 1)), Always(()))
        self.is_same(judged(SayingBook(1, [Told(0, 1, 5)]), Just(1, 5)).word, "open")
        self.is_same(judged(SayingBook(1, [Told(0, 1, 5, 5)]), Just(1, 5)).word, "always")
        self.is_same(len(judged(SayingBook(1, [Told(0, 1, 5, 5)]), Just(1, 5)).rings), 2)
        self.refuses(Impossible(Barred(())), judged, SayingBook(3, [Some(4, 0)]), Just(1, 0))
        self.refuses(Impossible(Barred(())), judged, SayingBook(12, [Some(13, 0)]), Some(1, 0, 0))
        full = SayingBook(2, [Rule(1, 0)] * 8)
        self.is_same(judged(full, Some(2, 0)).word, "always")
        # The saying has the number behind those of the book.
        self.is_same(8 in [step[1] for step in judged(full, Told(0, 2, None, -1)).rings[0]], True)

    def test_too_many_choices(self):
        book = SayingBook(12, [Some(1, 0), Some(1, 1)])
        self.is_same(many_choices(book), 144)
        self.is_same(judged(book, Some(11, 0)).word, "open")
        self.refuses(TooMany("choices", 400), judged, book, Some(10, 0))
        # The contrary has more choices than the saying.
        self.refuses(TooMany("choices", 400), judged, book, Rule(10, 0))
        self.refuses(TooMany("choices", 400), judged, SayingBook(12, []), Some(4, 0, 0))
        self.is_same(judged(SayingBook(12, []), Some(5, 0, 0)).word, "open")
        self.refuses(TooMany("choices", 400), judged, SayingBook(12, [Some(1, 0)] * 3), Rule(12, 0))
        self.refuses(TooMany("choices", 400), judged, SayingBook(12, [Some(1, 0)] * 3), Some(13, 0))
        # 288 choices: one more of each kind, and contraries with one choice and with two.
        book = SayingBook(12, [Some(1, 0), Some(1, 1), Some(11, 0)])
        self.is_same(many_choices(book), 288)
        for saying in (Just(12, 0), Told(0, 12, 0, 1), Told(3, 2, 0, 0), Some(12, 0, 0), Rule(12, 0, 1), Rule(11, 0)):
            self.refuses(TooMany("choices", 400), judged, book, saying)
        for saying in (Just(13, 0), Told(0, 12, 0), Told(3, 2, None, 0), Some(12, 0), Some(13, 0, 0), Rule(12, None, 1), Rule(13, 0, 1)):
            self.is_same(type(judged(book, saying)) in (Always, Never, Open), True)
        # Just 400 with two choices behind 200, or with one behind 400.
        book = SayingBook(12, [Some(3, 0), Some(3, 1), Some(11, 0)])
        self.is_same(many_choices(book), 200)
        for saying in (Just(12, 0), Told(0, 12, 0, 1), Some(12, 0, 0), Rule(12, 0, 1)):
            self.is_same(judged(book, saying).word, "open")
        book = SayingBook(12, [Just(3, 0), Some(9, 0)])
        self.is_same([judged(book, saying).word for saying in (Just(13, 0), Some(13, 0, 1), Rule(13, 0, 1))], ["never", "never", "always"])
        # Ahead of what no row keeps.
        never = SayingBook(12, [Some(1, 0), Some(1, 1), Rule(1, None, -1)])
        self.refuses(TooMany("choices", 400), judged, never, Some(10, 0))
        self.refuses(Impossible(some_row(never)), judged, never, Some(11, 0))

    def test_wrong_arguments(self):
        many = SayingBook(12, [Just(1, 0)] * 8)
        for value in NO_BOOKS + (Book(3, []),):
            self.refuses(BadBook("book"), judged, value, Some(1, 0))
            self.refuses(BadBook("book"), judged, value, None)
        for value in NO_SAYINGS:
            self.refuses(BadSaying("saying"), judged, THREE, value)
            self.refuses(BadSaying("saying"), judged, many, value)
            self.refuses(BadSaying("saying"), judged, SayingBook(3, [Some(4, 0)]), value)
        for begin, length in ((0, 13), (12, 1), (11, 2), (47, 48)):
            self.refuses(Misfit("days"), judged, many, Told(begin, length, 0))
            self.refuses(Misfit("days"), judged, SayingBook(3, [Some(4, 0)]), Told(begin, length, 0))


class Time(Case):

    def test_time(self):
        rules = [Rule(length, -length * 1000, length * 1001 + 7) for length in (1, 2, 3, 5, 7)]
        book = SayingBook(12, rules + [Just(3, 999999), Some(9, 999999)])
        begun = perf_counter()
        self.is_same(type(some_row(book)), Barred)
        book = SayingBook(12, rules + [Just(6, 5), Some(8, 500)])
        self.is_same([judged(book, saying).word for saying in (Told(0, 12, 0), Told(3, 4, 10 ** 6))], ["open", "never"])
        self.assertLess(perf_counter() - begun, 3)
