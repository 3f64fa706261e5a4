"""Points 2, 3, 15 and 16: which papers of saying books are right."""

import random
from time import perf_counter

from anyseven.books import Book
from anyseven.check_unseen import shows_judged, shows_some_row
from anyseven.choices import many_choices
from anyseven.errors import BadBook, BadSaying, Misfit, TooMany
from anyseven.kept import Kept, Ring
from anyseven.rows import Row
from anyseven.rules import Rule
from anyseven.sayingbooks import SayingBook
from anyseven.sayings import Just, Some, Told
from anyseven.unseen import Always, Barred, Found, Never, Open, judged, some_row
from tests import bends
from tests.anew_sayings import book_of, choices, contrary, made, right_judged, right_some_row, some_books, some_saying
from tests.bends import bent_papers, bent_steps
from tests.support import Case, few
from tests.test_sayingbooks import NO_BOOKS
from tests.test_sayings import NO_SAYINGS

THREE = (3, [("any", 2, None, -1), ("told", 0, 3, 1, None)])
NEVER = (2, [("any", 1, 1, None), ("some", 1, None, 0)])
RINGS = (((0, 1, 1), (1, 0, -1)), ((1, 1, 1), (2, 0, -1)))
RING = ((0, 2, 1), (1, 0, 1), (3, 1, -1))
OTHER_PAPERS = (
    Found(None), Found(Row([0])), Found(Row([2, -3, 2])), Barred(None), Barred(()), Barred(((),)), Barred(RINGS), Always(()), Always(None),
    Always((RING,)), Never(()), Never(None), Never((RING,)), Open(None, None), Open(Row([2, -3, 2]), Row([2, -3, 2])), Kept(Row([2, -3,
        2])), Ring(RING))


class ShowsSomeRow(Case):

    def shows(self, days, sayings, value):
        shown = shows_some_row(book_of(days, sayings), value)
        self.is_same(shown, right_some_row(days, sayings, value))
        self.is_same(shows_some_row(value=value, book=book_of(days, sayings)), shown)
        return shown

    def test_what_is_returned_is_right(self):
        for days, sayings in some_books(951, 200):
            self.is_same(self.shows(days, sayings, some_row(book_of(days, sayings))), True)

    def test_bent_papers(self):
        chance = random.Random(952)
        count = [0, 0]
        for days, sayings in list(some_books(953, 80, 4, 4, 12)) + [THREE, NEVER, (1, [])]:
            for other in few(bent_papers(some_row(book_of(days, sayings))), chance, 250):
                count[self.shows(days, sayings, other)] += 1
        self.assertTrue(count[0] > 5000 and count[1] > 20, count)

    def test_bent_rings(self):
        chance = random.Random(954)
        count = [0, 0]
        for days, sayings in some_books(955, 150, 4, 4, 12):
            paper = some_row(book_of(days, sayings))
            if not paper:
                for at, ring in enumerate(paper.rings):
                    for other in few(bent_steps(ring), chance, 40):
                        count[self.shows(days, sayings, Barred(paper.rings[:at] + (other,) + paper.rings[at + 1:]))] += 1
        self.assertTrue(count[0] > 1000 and count[1] > 50, count)

    def test_each_part(self):
        for rings, shown in (
                (RINGS, True), ([[list(step) for step in ring] for ring in RINGS], True), (RINGS[::-1], False), (RINGS[:1], False),
                (RINGS + RINGS[:1], False),
                ((RINGS[0], RINGS[0]), False), ((RINGS[0][::-1], RINGS[1]), True), ((RINGS[0] * 2, RINGS[1]), True), ((RINGS[0], ()), False),
                ((RINGS[0], RINGS[1][:1]), False), ((RINGS[0], ((1, 1, True), (2, 0, -1))), False), ((((False, 1, 1), (1, 0, -1)), RINGS[1]), False),
                ((((0, 1, 1), (1, 0, -1.0)), RINGS[1]), False), ((RINGS[0], None), False), ((None, None), False), ("ab", False), ({0: 1,
                1: 2}, False)):
            self.is_same(self.shows(*NEVER, Barred(rings)), shown)
        for row, shown in (
                (Row([2, -3, 2]), True), (Row([3, -4, 3]), True), (Row([1, -2, 1]), False), (Row([2, -3, 2, 0]), False), (Row([2, -3]),
                False), ((2, -3, 2), False),
                ("2 -3 2", False), (None, False)):
            self.is_same(self.shows(*THREE, Found(row)), shown)

    def test_books_without_a_choice(self):
        book = (3, [("some", 4, 0, None), ("just", 1, 0)])
        self.is_same([self.shows(*book, Barred(rings)) for rings in ((), [], ((),), None, (RINGS[0],), {}, "", 0)], [True, True] + [False] * 6)
        self.is_same(self.shows(3, [], Barred(())), False)
        self.is_same(self.shows(3, [], Barred(((),))), False)
        self.is_same(self.shows(3, [], Found(Row([1, 2, 3]))), True)

    def test_other_papers(self):
        for days, sayings in (THREE, NEVER, (1, []), (3, [("some", 4, 0, None)])):
            for value in OTHER_PAPERS + bends.alike(some_row(book_of(days, sayings))):
                self.shows(days, sayings, value)

    def test_wrong_arguments(self):
        for value in NO_BOOKS + (Book(3, []),):
            self.refuses(BadBook("book"), shows_some_row, value, Found(Row([0, 0, 0])))
        for sayings in ([Just(1, 0)] * 2, [Some(1, 0)] * 3, [Just(1, 0)] * 8):
            for value in (None, Found(Row([0] * 12)), Barred(())):
                self.refuses(TooMany("choices", 400), shows_some_row, SayingBook(12, sayings), value)


class ShowsJudged(Case):

    def shows(self, days, sayings, saying, value):
        shown = shows_judged(book_of(days, sayings), made(saying), value)
        self.is_same(shown, right_judged(days, sayings, saying, value))
        self.is_same(shows_judged(value=value, saying=made(saying), book=book_of(days, sayings)), shown)
        return shown

    def some_judged(self, seed, count, most_days=4):
        """Saying books that some row keeps, with a saying of as many days, and the paper that judges it."""
        chance = random.Random(seed)
        for days, sayings in some_books(seed, count, most_days, 4, 12):
            saying = some_saying(chance, days)
            many = many_choices(book_of(days, sayings))
            if many * max(len(choices(days, saying)), len(contrary(days, saying))) <= 400 and some_row(book_of(days, sayings)):
                yield days, sayings, saying, judged(book_of(days, sayings), made(saying))

    def test_what_is_returned_is_right(self):
        words = {}
        for days, sayings, saying, paper in self.some_judged(961, 300, 5):
            self.is_same(self.shows(days, sayings, saying, paper), True)
            words[paper.word] = words.get(paper.word, 0) + 1
        self.is_same(sorted(words), ["always", "never", "open"])
        self.assertGreater(min(words.values()), 10)

    def test_bent_papers(self):
        chance = random.Random(962)
        count = [0, 0]
        for days, sayings, saying, paper in self.some_judged(963, 100):
            for other in few(bent_papers(paper), chance, 150):
                count[self.shows(days, sayings, saying, other)] += 1
        self.assertTrue(count[0] > 4000 and count[1] > 100, count)

    def test_papers_of_other_sayings(self):
        chance = random.Random(964)
        count = [0, 0]
        told = list(self.some_judged(965, 60, 3))
        for days, sayings, saying, _ in told:
            for *_, paper in few(told, chance, 25):
                count[self.shows(days, sayings, saying, paper)] += 1
        self.assertGreater(min(count), 10)

    def test_exchanged_rows(self):
        for days, sayings, saying, paper in self.some_judged(966, 80):
            if type(paper) is Open:
                self.is_same(self.shows(days, sayings, saying, Open(paper.other, paper.one)), False)
                self.is_same(self.shows(days, sayings, saying, Open(paper.one, paper.one)), False)

    def test_always_and_never_exchanged(self):
        for days, sayings, saying, paper in self.some_judged(967, 150):
            if type(paper) is not Open:
                other = Never if type(paper) is Always else Always
                self.is_same(self.shows(days, sayings, saying, other(paper.rings)), False)

    def test_whether_some_row_keeps_the_book_is_not_asked(self):
        # Of a book without a choice there is nothing that needs a ring.
        book = (3, [("some", 4, 0, None)])
        for saying in (("just", 1, 0), ("any", 1, 0, None), ("told", 0, 3, 1, None)):
            self.is_same([self.shows(*book, saying, kind(())) for kind in (Always, Never)], [True, True])
            self.is_same(self.shows(*book, saying, Open(Row([0, 0, 0]), Row([1, 1, 1]))), False)
        # Rings of the book alone are rings of it with one choice more.
        self.is_same([self.shows(*NEVER, ("told", 0, 1, 1, None), kind(RINGS)) for kind in (Always, Never)], [True, True])

    def test_each_part(self):
        saying = ("some", 1, 2, None)
        for rings, shown in (
                ((RING,), True), ([list(map(list, RING))], True), ((RING[1:] + RING[:1],), True), ((RING * 2,), True), ((RING[::-1],),
                False), ((RING[:2],), False),
                ((), False), ((RING, RING), False), (RING, False), (None, False), ((((0, 2, 1), (1, 0, 1), (3, True, -1)),), False)):
            self.is_same(self.shows(*THREE, saying, Always(rings)), shown)
            self.is_same(self.shows(*THREE, saying, Never(rings)), False)

    def test_sayings_without_a_choice(self):
        self.is_same([self.shows(3, [], ("some", 4, 0, None), paper) for paper in (Never(()), Never(((),)), Always(()), Never(None))],
            [True] + [False] * 3)
        self.is_same([self.shows(3, [], ("any", 4, 0, None), paper) for paper in (Always(()), Always(((),)), Never(()), Always(None))],
            [True] + [False] * 3)

    def test_other_papers(self):
        for days, sayings in (THREE, NEVER, (1, []), (3, [("some", 4, 0, None)])):
            for saying in (("just", 1, 0), ("told", 0, 1, None, 0), ("some", 4, 0, 0), ("any", 2, 0, None)):
                for value in OTHER_PAPERS + bends.alike(Always((RING,))) + bends.alike(Open(Row([1]), Row([0]))):
                    self.shows(days, sayings, saying, value)

    def test_wrong_arguments(self):
        right, many = Always((RING,)), SayingBook(12, [Just(1, 0)] * 8)
        for value in NO_BOOKS + (Book(3, []),):
            self.refuses(BadBook("book"), shows_judged, value, Some(1, 2), right)
            self.refuses(BadBook("book"), shows_judged, value, None, None)
        for value in NO_SAYINGS:
            self.refuses(BadSaying("saying"), shows_judged, book_of(*THREE), value, right)
            self.refuses(BadSaying("saying"), shows_judged, many, value, right)
        for begin, length in ((0, 13), (12, 1), (11, 2), (47, 48)):
            self.refuses(Misfit("days"), shows_judged, many, Told(begin, length, 0), right)
        for value in (None, right, Never(()), Open(Row([0] * 12), Row([0] * 12))):
            self.refuses(TooMany("choices", 400), shows_judged, many, Some(1, 0), value)
            self.refuses(TooMany("choices", 400), shows_judged, SayingBook(12, [Some(1, 0)] * 2), Some(10, 0), value)
            self.refuses(TooMany("choices", 400), shows_judged, SayingBook(12, [Some(1, 0)] * 2), Rule(10, 0), value)
            self.refuses(TooMany("choices", 400), shows_judged, SayingBook(12, []), Some(4, 0, 0), value)


class Time(Case):

    def test_time(self):
        book = SayingBook(12, [Rule(length, -length, length + 7) for length in (1, 2, 3, 5, 7)] + [Just(3, 999999), Some(9, 999999)])
        paper = some_row(book)
        begun = perf_counter()
        self.is_same(len(paper.rings), 400)
        self.is_same(shows_some_row(book, paper), True)
        level = SayingBook(12, [Told(0, 12, 0, 0)])
        for length in (1, 2, 3, 4, 6, 12):
            self.is_same(shows_judged(level, Just(length, 0), judged(level, Just(length, 0))), True)
        self.assertLess(perf_counter() - begun, 3)
