"""Points 2, 3 and 10: which papers of bounds, of rules that follow, and of two lengths are right."""

import random
from time import perf_counter

from anyseven.alike import Alike, Unlike, alike
from anyseven.books import Book
from anyseven.bounds import AnyBound, AnyUnbound, Bound, Unbound, any_greatest, any_least, greatest, least
from anyseven.check_bounds import (
    shows_alike, shows_any_greatest, shows_any_least, shows_follows, shows_greatest, shows_least)
from anyseven.errors import BadBook, BadNumber, BadRule
from anyseven.follows import Breaks, Follows, follows
from anyseven.kept import Kept, Ring
from anyseven.rows import Row
from anyseven.rules import Rule
from tests import bends
from tests.anew_bounds import right_alike, right_any_bound, right_bound, right_follows
from tests.bends import STRANGE, bent_papers
from tests.support import NO_INTEGERS, Case, few
from tests.test_books import NO_BOOKS
from tests.test_bounds import NEVER, kept_books, stretches
from tests.test_follows import rules_near
from tests.test_rules import NO_RULES

RULES = [Rule(2, None, 3), Rule(3, 4)]
FOUR, THREE = Book(4, RULES), Book(3, RULES)
WAY = ((0, 0, 1), (2, 0, 1), (4, 1, -1))
ROW = Row([2, 1, 1, 2])
CALLS = ((greatest, shows_greatest, 1), (least, shows_least, -1))
ANY_CALLS = ((any_greatest, shows_any_greatest, 1), (any_least, shows_any_least, -1))
OTHER_PAPERS = (
    Bound(None, None, None), Unbound(None), AnyBound(None, None, None, None), AnyUnbound(None, None), Follows(None),
    Breaks(None, None), Alike(None), Unlike(None), Kept(ROW), Ring(WAY), Bound(2, WAY, ROW), Unbound([0, 2]), Follows(()), Alike(()),
    AnyBound(2, 0, ROW, ()), AnyUnbound(0, [0, 2]), Breaks(ROW, 0), Unlike(ROW), Unbound(()), Bound(0, (), ROW))


class ShowsBounds(Case):

    def shows(self, book, begin, length, call, sign, value):
        shown = call(book, begin, length, value)
        self.is_same(shown, right_bound(book, begin, length, sign, value))
        self.is_same(call(value=value, length=length, begin=begin, book=book), shown)
        return shown

    def test_what_is_returned_is_right(self):
        for book in kept_books(251, 60, 6):
            for begin, length in stretches(book.days):
                for told, call, sign in CALLS:
                    self.is_same(self.shows(book, begin, length, call, sign, told(book, begin, length)), True)

    def test_bent_papers(self):
        chance = random.Random(252)
        count = [0, 0]
        books = [(FOUR, 0, 1), (FOUR, 1, 3), (THREE, 0, 1), (THREE, 2, 1), (Book(1, []), 0, 1), (Book(1, [Rule(1, 1, 1)]), 0, 1)]
        for book in kept_books(253, 25, 5):
            books.append((book, *chance.choice(stretches(book.days))))
        for book, begin, length in books:
            for told, call, sign in CALLS:
                for other in few(bent_papers(told(book, begin, length)), chance, 400):
                    count[self.shows(book, begin, length, call, sign, other)] += 1
        self.assertTrue(count[0] > 5000 and count[1] > 50, count)

    def test_papers_of_other_stretches(self):
        count = [0, 0]
        for book in kept_books(254, 15, 4):
            papers = [told(book, *other) for told, _, _ in CALLS for other in stretches(book.days)]
            for begin, length in stretches(book.days):
                for _, call, sign in CALLS:
                    for paper in papers:
                        count[self.shows(book, begin, length, call, sign, paper)] += 1
        self.assertGreater(min(count), 100)

    def test_each_part_of_one_paper(self):
        for number, way, row, shown in (
                (2, WAY, ROW, True), (2, list(map(list, WAY)), ROW, True), (3, WAY, Row([3, 0, 1, 2]), False), (2, WAY, Row([2, 1, 1]), False),
                (2, WAY, Row([2, 2, 1, 2]), False), (2, WAY[:2], ROW, False), (2, WAY + WAY, ROW, False), (2, (), ROW, False),
                (True, WAY, Row([1, 2, 1, 1]), False), (2.0, WAY, ROW, False), (2, WAY, None, False), (2, WAY, (2, 1, 1, 2), False),
                (1, WAY, Row([1, 2, 1, 2]), False), (None, WAY, ROW, False), (2, None, ROW, False), (10 ** 70, WAY, ROW, False),
                (2, WAY[::-1], ROW, False), (2, ((0, 0, True),) + WAY[1:], ROW, False), (2, ((False, 0, 1),) + WAY[1:], ROW, False)):
            self.is_same(self.shows(FOUR, 0, 1, shows_greatest, 1, Bound(number, way, row)), shown)
        # A longer way that costs as much is right, too.
        even = Book(4, RULES + [Rule(1, 0, 0)])
        self.is_same(self.shows(even.without([0, 1]), 0, 1, shows_greatest, 1, Bound(0, ((0, 0, 1),), Row([0] * 4))), True)
        round_about = ((0, 0, 1), (1, 0, 1), (2, 0, -1))
        self.is_same(self.shows(even.without([0, 1]), 0, 1, shows_greatest, 1, Bound(0, round_about, Row([0] * 4))), True)
        self.is_same(self.shows(even.without([0, 1]), 0, 1, shows_least, -1, Bound(0, ((1, 0, -1),), Row([0] * 4))), True)
        self.is_same(self.shows(even.without([0, 1]), 0, 1, shows_least, -1, Bound(0, ((0, 0, 1),), Row([0] * 4))), False)

    def test_places(self):
        for places, shown in (
                ([0, 2], True), ((0, 2), True), ([2, 0], False), ([0, 0, 2], False), ([0], False), ([0, 1, 2], False), ([0, 2, 3], True),
                ([0, True], False), ([False, 2], False), ([0.0, 2], False), ([-1, 0, 2], False), ([0, 2, 4], False), ([], False),
                (None, False), (0, False), ("02", False), ({0: 2}, False), ([0, (2,)], False)):
            self.is_same(self.shows(THREE, 0, 1, shows_greatest, 1, Unbound(places)), shown)
        for places, shown in (([2], True), ([0, 2], True), ([2, 3], False), ([0, 2, 3], True), ([1, 2, 3], False), ([0, 3], False)):
            self.is_same(self.shows(THREE, 1, 1, shows_least, -1, Unbound(places)), shown)
        # Any such places, also where more than those to which ways come are told.
        self.is_same(self.shows(Book(3, []), 0, 1, shows_greatest, 1, Unbound([0, 2, 3])), True)
        self.is_same(self.shows(Book(3, []), 1, 1, shows_greatest, 1, Unbound([1])), True)

    def test_books_that_no_row_keeps(self):
        for begin, length in stretches(7):
            for _, call, sign in CALLS:
                for places in ([begin], list(range(begin + 1)), [begin + length], []):
                    self.shows(NEVER, begin, length, call, sign, Unbound(places))
        never = Book(2, [Rule(1, 1), Rule(1, None, 0), Rule(2, None, 0)])
        self.is_same(self.shows(Book(3, [Rule(3, 1), Rule(3, None, 0)]), 0, 1, shows_greatest, 1, Unbound([0, 3])), True)
        self.is_same(self.shows(never, 0, 1, shows_greatest, 1, Bound(0, [(0, 1, 1)], Row([0, 0]))), False)

    def test_what_is_no_such_paper(self):
        for book in (FOUR, THREE, NEVER):
            for _, call, sign in CALLS:
                for value in STRANGE + OTHER_PAPERS:
                    self.shows(book, 0, 1, call, sign, value)
                for paper in (Bound(2, WAY, ROW), Unbound([0, 2])):
                    for value in bends.alike(paper):
                        self.is_same(call(book, 0, 1, value), False)

    def test_wrong_arguments(self):
        for _, call, _ in CALLS:
            for value in NO_BOOKS:
                if not isinstance(value, Book):
                    self.refuses(BadBook("book"), call, value, None, None, None)
            for value in NO_INTEGERS + (-1, 4, 10 ** 70):
                self.refuses(BadNumber("begin"), call, FOUR, value, None, Bound(2, WAY, ROW))
            for value in NO_INTEGERS + (0, 4, 10 ** 70):
                self.refuses(BadNumber("length"), call, FOUR, 1, value, None)


class ShowsAnyBounds(Case):

    def shows(self, book, length, call, sign, value):
        shown = call(book, length, value)
        self.is_same(shown, right_any_bound(book, length, sign, value))
        self.is_same(call(value=value, length=length, book=book), shown)
        return shown

    def test_bent_papers(self):
        chance = random.Random(261)
        count = [0, 0]
        books = [(FOUR, 1), (FOUR, 4), (THREE, 1), (THREE, 3), (Book(1, [Rule(1, 0, 0)]), 1), (Book(3, [Rule(1, 1, 1)]), 2)]
        books += [(book, chance.randint(1, book.days)) for book in kept_books(262, 25, 5)]
        for book, length in books:
            for told, call, sign in ANY_CALLS:
                paper = told(book, length)
                self.is_same(self.shows(book, length, call, sign, paper), True)
                for other in few(bent_papers(paper), chance, 400):
                    count[self.shows(book, length, call, sign, other)] += 1
        self.assertTrue(count[0] > 5000 and count[1] > 50, count)

    def test_any_begin_and_row(self):
        paper = any_greatest(FOUR, 1)
        for begin, row, shown in (
                (0, ROW, True), (3, ROW, True), (1, ROW, False), (1, Row([1, 2, 1, 2]), True), (3, Row([1, 2, 1, 2]), True),
                (2, Row([1, 1, 2, 1]), True), (4, ROW, False), (-1, ROW, False), (True, Row([1, 2, 1, 2]), False), (False, ROW, False),
                (None, ROW, False), (0, Row([2, 2, 2, 2]), False), (0, None, False)):
            self.is_same(self.shows(FOUR, 1, shows_any_greatest, 1, AnyBound(2, begin, row, paper.ways)), shown)
        self.is_same(self.shows(FOUR, 1, shows_any_greatest, 1, AnyBound(1, 0, Row([1, 2, 1, 1]), paper.ways)), False)
        self.is_same(self.shows(FOUR, 1, shows_any_greatest, 1, AnyBound(2, 0, ROW, paper.ways[1:])), False)
        self.is_same(self.shows(FOUR, 1, shows_any_greatest, 1, AnyBound(2, 0, ROW, paper.ways + paper.ways[3:])), False)
        self.is_same(self.shows(FOUR, 1, shows_any_greatest, 1, AnyBound(2, 0, ROW, paper.ways[::-1])), False)

    def test_any_begin_without_a_bound(self):
        for begin, places, shown in (
                (0, [0, 2], True), (1, [0, 2], False), (2, [0, 2], True), (1, [1, 3], False), (1, [0, 1, 3], False), (3, [3], False),
                (0, [0, 2, 3], True), (2, [0, 2, 3], False), (True, [0, 2], False), (False, [0, 2], False), (None, [0, 2], False),
                (0, None, False), (-1, [0, 2], False), (0.0, [0, 2], False)):
            self.is_same(self.shows(THREE, 1, shows_any_greatest, 1, AnyUnbound(begin, places)), shown)
        self.is_same(self.shows(Book(3, []), 1, shows_any_greatest, 1, AnyUnbound(2, [2])), True)
        self.is_same(self.shows(Book(3, []), 1, shows_any_least, -1, AnyUnbound(2, [3])), True)

    def test_what_is_no_such_paper(self):
        for book in (FOUR, THREE, NEVER):
            for _, call, sign in ANY_CALLS:
                for value in STRANGE + OTHER_PAPERS:
                    self.shows(book, 1, call, sign, value)
                for paper in (any_greatest(FOUR, 1), any_greatest(THREE, 1)):
                    for value in bends.alike(paper):
                        self.is_same(call(book, 1, value), False)

    def test_wrong_arguments(self):
        for _, call, _ in ANY_CALLS:
            for value in NO_BOOKS:
                if not isinstance(value, Book):
                    self.refuses(BadBook("book"), call, value, None, None)
            for value in NO_INTEGERS + (0, 5, -1, 10 ** 70):
                self.refuses(BadNumber("length"), call, FOUR, value, any_greatest(FOUR, 1))


class ShowsFollows(Case):

    def shows(self, book, rule, value):
        shown = shows_follows(book, rule, value)
        self.is_same(shown, right_follows(book, rule, value))
        self.is_same(shows_follows(value=value, rule=rule, book=book), shown)
        return shown

    def test_bent_papers(self):
        chance = random.Random(271)
        count = {True: [0, 0], False: [0, 0]}
        asked = [(FOUR, Rule(1, 1, 2)), (FOUR, Rule(1, None, 1)), (FOUR, Rule(5, 7)), (FOUR, Rule(2, 2)), (Book(1, []), Rule(1, 0))]
        for book in kept_books(272, 25, 5):
            asked += [(book, rule) for rule in rules_near(chance, book, 2)]
        for book, rule in asked:
            paper = follows(book, rule)
            self.is_same(self.shows(book, rule, paper), True)
            for other in few(bent_papers(paper), chance, 400):
                count[bool(paper)][self.shows(book, rule, other)] += 1
        self.assertTrue(min(count[True][0], count[False][0]) > 1000 and min(count[True][1], count[False][1]) > 10, count)

    def test_none_only_where_nothing_is_told(self):
        ways = follows(FOUR, Rule(1, 1, 2)).ways
        self.is_same(self.shows(FOUR, Rule(1, 1, 2), Follows(ways)), True)
        for rule, pairs, shown in (
                (Rule(1, 1), [(home, None) for home, _ in ways], True), (Rule(1, None, 2), [(None, forth) for _, forth in ways], True),
                (Rule(1, 1), ways, False), (Rule(1, None, 2), ways, False), (Rule(1, 1, 2), [(home, None) for home, _ in ways], False),
                (Rule(1, 1), [(home, ()) for home, _ in ways], False), (Rule(1, 1), [(home, 0) for home, _ in ways], False),
                (Rule(1, 1), [(home, False) for home, _ in ways], False), (Rule(1, 1), [(home,) for home, _ in ways], False),
                (Rule(1, 0, 3), ways, True), (Rule(1, -7, 3), ways, True), (Rule(1, 2, 2), ways, False), (Rule(1, 1, 1), ways, False),
                (Rule(2, 1, 2), ways, False), (Rule(1, 1, 2), ways[1:], False), (Rule(1, 1, 2), ways + ways[:1], False),
                (Rule(1, 1, 2), [pair[::-1] for pair in ways], False), (Rule(5, 1), ways, False), (Rule(5, 1), (), True),
                (Rule(5, 1), None, False), (Rule(48, 0, 0), [], True), (Rule(4, 1), (), False)):
            self.is_same(self.shows(FOUR, rule, Follows(pairs)), shown)

    def test_any_row_that_breaks_it(self):
        for row, begin, shown in (
                (Row([2, 1, 2, 1]), 0, True), (Row([2, 1, 2, 1]), 2, True), (Row([2, 1, 2, 1]), 3, False), (Row([1, 2, 1, 1]), 1, True),
                (Row([1, 2, 1, 1]), True, False), (Row([2, 2, 2, 2]), 0, False), (Row([2, 1, 2]), 0, False), (None, 0, False),
                (Row([2, 1, 2, 1]), 4, False), (Row([2, 1, 2, 1]), -4, False), (Row([2, 1, 2, 1]), None, False), ((2, 1, 2, 1), 0, False),
                (Row([2, 1, 2, 1]), False, False), (Row([2, 1, 2, 1]), 0.0, False)):
            self.is_same(self.shows(FOUR, Rule(1, None, 1), Breaks(row, begin)), shown)
        self.is_same(self.shows(FOUR, Rule(5, 10 ** 6), Breaks(ROW, 0)), False)
        self.is_same(self.shows(FOUR, Rule(4, 10), Breaks(ROW, 0)), True)
        self.is_same(self.shows(FOUR, Rule(4, 10), Breaks(ROW, 1)), False)

    def test_what_is_no_such_paper(self):
        for book in (FOUR, THREE, NEVER):
            for rule in (Rule(1, 1, 2), Rule(5, 1), Rule(7, 1), Rule(8, 1)):
                for value in STRANGE + OTHER_PAPERS:
                    self.shows(book, rule, value)
                for paper in (Follows(()), Breaks(ROW, 0), follows(FOUR, Rule(1, 1, 2))):
                    for value in bends.alike(paper):
                        self.is_same(shows_follows(book, rule, value), False)

    def test_wrong_arguments(self):
        for value in NO_BOOKS:
            if not isinstance(value, Book):
                self.refuses(BadBook("book"), shows_follows, value, None, None)
        for value in NO_RULES:
            self.refuses(BadRule("rule"), shows_follows, FOUR, value, Follows(()))
            self.refuses(BadRule("rule"), shows_follows, NEVER, value, None)


class ShowsAlike(Case):

    def shows(self, days, one, other, value):
        shown = shows_alike(days, one, other, value)
        self.is_same(shown, right_alike(days, one, other, value))
        self.is_same(shows_alike(value=value, other=other, one=one, days=days), shown)
        return shown

    def test_bent_papers(self):
        chance = random.Random(281)
        count = {True: [0, 0], False: [0, 0]}
        for days, one, other in ((4, 2, 3), (3, 2, 3), (8, 4, 6), (7, 4, 6), (1, 1, 1), (3, 2, 2), (5, 7, 3), (6, 4, 2), (4, 9, 9), (9, 6, 9)):
            paper = alike(days, one, other)
            self.is_same(self.shows(days, one, other, paper), True)
            for bent in few(bent_papers(paper), chance, 800):
                count[bool(paper)][self.shows(days, one, other, bent)] += 1
        self.assertTrue(count[True][0] > 1000 and count[False][0] > 150 and min(count[True][1], count[False][1]) > 5, count)

    def test_any_leads(self):
        for leads, shown in (
                ([[0, 3, 1], [1, 3, 0, 2], [2, 0, 3]], True), ([[0, 2, 0, 3, 1], [1, 3, 0, 2], [2, 0, 3]], True),
                ([[0, 3, 1], [1, 3, 0, 2]], False), ([[0, 3, 1], [2, 0, 3], [1, 3, 0, 2]], False), ([[0, 1], [1, 2], [2, 3]], False),
                ([[0, 3, 1], [1, 4, 2], [2, 0, 3]], False), ([[0, 3, 1], [1, -1, 2], [2, 0, 3]], False), ([[], [], []], False),
                ([[0, 3, 1], [1, 3, 0, 2], [2, 0, 3], []], False), ([[0, 3, True], [1, 3, 0, 2], [2, 0, 3]], False),
                ([[0, 3, 1], [1], [2, 0, 3]], False), ([0, 3, 1], False), (None, False)):
            self.is_same(self.shows(4, 2, 3, Alike(leads)), shown)
        self.is_same(self.shows(3, 2, 2, Alike([[0, 2]])), True)
        self.is_same(self.shows(2, 2, 2, Alike([])), True)
        self.is_same(self.shows(2, 2, 3, Alike([])), False)
        self.is_same(self.shows(2, 2, 3, Alike([[0, 1]])), False)

    def test_any_rows(self):
        for gains, shown in (([0, 1, 0], True), ([5, 1, 5], True), ([0, 0, 0], False), ([0, 1], False), ([0, 1, 1], False), ([1, 0, 1, 0], False)):
            self.is_same(self.shows(3, 2, 3, Unlike(Row(gains))), shown)
        self.is_same(self.shows(3, 2, 3, Unlike([0, 1, 0])), False)
        self.is_same(self.shows(2, 3, 5, Unlike(Row([0, 1]))), True)
        self.is_same(self.shows(1, 3, 5, Unlike(Row([1]))), False)

    def test_what_is_no_such_paper(self):
        for days, one, other in ((4, 2, 3), (3, 2, 3), (1, 1, 1)):
            for value in STRANGE + OTHER_PAPERS:
                self.shows(days, one, other, value)
            for paper in (Alike(()), Unlike(Row([0, 1, 0]))):
                for value in bends.alike(paper):
                    self.is_same(shows_alike(days, one, other, value), False)


class Time(Case):

    def test_time(self):
        book = Book(48, [Rule(length, -length, length) for length in (1, 2, 3, 4, 5, 6, 7, 8)])
        papers = [(call, told(book, 3)) for told, call, _ in ANY_CALLS]
        rule = Rule(9, -9, 9)
        paper = follows(book, rule)
        begun = perf_counter()
        for _ in range(5):
            self.assertTrue(all(call(book, 3, told) for call, told in papers) and shows_follows(book, rule, paper))
        self.assertLess(perf_counter() - begun, 2)
