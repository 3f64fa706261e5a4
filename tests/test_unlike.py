"""Points 8 and 11: two lengths of unlike signs in level rows, and all tables of level rows."""

import random
from math import gcd
from time import perf_counter

from anyseven.check_tables import shows_unlike
from anyseven.errors import BadNumber, TooMany
from anyseven.levelled import levelled
from anyseven.papers import Denial
from anyseven.rows import Row
from anyseven.tables import Table, signs_row
from anyseven.unlike import BothSigns, Home, all_tables, unlike, unlike_pairs
from tests.anew_signs import is_possible, right_unlike, signs_to_days, walks_home
from tests.support import NO_INTEGERS, Case

NO_DAYS = NO_INTEGERS + (0, -1, 49, 10 ** 70)


class Pairs(Case):

    def test_against_rings(self):
        for days in range(1, 15):
            right = tuple(
                (up, down) for up in range(1, days) for down in range(1, days) if is_possible(days, [up], [down], True))
            self.is_same(unlike_pairs(days), right)
            self.is_same(unlike_pairs(days=days), right)

    def test_against_rows(self):
        for days in range(1, 25):
            pairs = unlike_pairs(days)
            self.is_same(pairs, tuple(sorted(set(pairs))))
            for up in range(1, days):
                for down in range(1, days):
                    self.is_same((up, down) in pairs, bool(signs_row(days, [up], [down], True)))
            for up, down in pairs:
                self.assertIn((down, up), pairs)
                self.assertGreater(up + down, days)

    def test_edges(self):
        self.is_same([unlike_pairs(days) for days in (1, 2, 3, 4, 5, 6)], [()] * 6)
        self.is_same(unlike_pairs(7), ((4, 6), (6, 4)))
        self.assertGreater(len(unlike_pairs(24)), 10)
        for value in NO_DAYS:
            self.refuses(BadNumber("days"), unlike_pairs, value)
        for days in (25, 26, 48):
            self.refuses(TooMany("days", 24), unlike_pairs, days)

    def test_time(self):
        begun = perf_counter()
        unlike_pairs(24)
        self.assertLess(perf_counter() - begun, 1)


class TwoLengths(Case):

    def right(self, days, up, down):
        paper = unlike(days, up, down)
        self.assertTrue(right_unlike(days, up, down, paper), (days, up, down, paper.parts))
        self.is_same(shows_unlike(days, up, down, paper), True)
        self.is_same(unlike(losing=down, gaining=up, days=days) == paper, True)
        if type(paper) is BothSigns:
            self.is_same((paper.word, paper.parts, bool(paper)), ("bothsigns", (paper.row,), True))
        else:
            self.is_same((type(paper), paper.word, paper.parts, bool(paper)), (Home, "home", (paper.places,), False))
            self.assertTrue(isinstance(paper, Denial))
        return bool(paper)

    def test_all_of_few_days(self):
        for days in range(2, 20):
            pairs = unlike_pairs(days)
            for up in range(1, days):
                for down in range(1, days):
                    self.is_same(self.right(days, up, down), (up, down) in pairs)

    def test_more_days(self):
        seen = [0, 0]
        chance = random.Random(321)
        for _ in range(300):
            days = chance.randint(20, 48)
            up, down = chance.randint(days // 3, days - 1), chance.randint(days // 3, days - 1)
            told = self.right(days, up, down)
            self.is_same(told, is_possible(days, [up], [down], True))
            seen[told] += 1
        self.assertGreater(min(seen), 30)

    def test_walks(self):
        for days in range(2, 25):
            for up in range(1, days):
                for down in range(1, days):
                    if up != down and up + down > days:
                        paper = unlike(days, up, down)
                        homes = walks_home(days, up, down)
                        self.is_same(homes == [], bool(paper))
                        if homes:
                            self.assertIn(paper.places, homes)

    def test_rings(self):
        for days, up, down in ((5, 4, 4), (6, 2, 3), (2, 1, 1), (48, 47, 47), (48, 24, 24), (48, 1, 47), (48, 20, 28), (9, 3, 6), (9, 6, 3)):
            places = unlike(days, up, down).places
            self.is_same(places[0], places[-1])
            self.assertTrue(all(other - one in (up, -down) for one, other in zip(places, places[1:])))

    def test_what_passes_neither_end(self):
        for days in range(2, 20):
            for up in range(1, days):
                for down in range(1, days):
                    if days < up + down - gcd(up, down) and up != down:
                        self.right(days, up, down)

    def test_wrong_arguments(self):
        for call in (unlike, lambda days, up, down: shows_unlike(days, up, down, None)):
            for value in NO_DAYS + (1,):
                self.refuses(BadNumber("days"), call, value, 1, 1)
                self.refuses(BadNumber("days"), call, value, None, None)
            for value in NO_INTEGERS + (0, -1, 7, 8, 48, 10 ** 70):
                self.refuses(BadNumber("gaining"), call, 7, value, 1)
                self.refuses(BadNumber("gaining"), call, 7, value, 7)
                self.refuses(BadNumber("losing"), call, 7, 1, value)
            self.refuses(BadNumber("gaining"), call, 2, 2, 2)
            self.refuses(BadNumber("losing"), call, 2, 1, 2)

    def test_time(self):
        begun = perf_counter()
        for up in range(20, 48):
            for down in range(20, 48):
                unlike(48, up, down)
        self.assertLess(perf_counter() - begun, 4)


class AllTables(Case):

    def test_how_many(self):
        self.is_same([len(all_tables(days)) for days in range(1, 8)], [1, 1, 3, 3, 9, 7, 23])

    def test_they_are_tables_of_level_rows(self):
        chance = random.Random(331)
        for days in range(1, 8):
            told = all_tables(days)
            parts = [paper.parts for paper in told]
            self.is_same(all_tables(days=days) == told, True)
            self.is_same(parts, sorted(set(parts)))
            self.assertTrue(all(type(paper) is Table for paper in told))
            for up, down in parts:
                self.assertTrue(signs_row(days, up, down, True))
                self.assertNotIn(days, up + down)
            found = set()
            for _ in range(3000):
                row = levelled(Row([chance.randint(-5, 5) for _ in range(days)]))
                found.add(signs_to_days(row.gains))
            self.assertLessEqual(found, set(parts))
            self.assertTrue(found == set(parts) or days > 5, days)

    def test_each_of_them_is_had(self):
        # Each of them is the whole table of some row: steps of other lengths can be turned about.
        for days in range(1, 6):
            found = set()
            for heights in orders(days):
                gains = [other - one for one, other in zip(heights, heights[1:])]
                found.add(signs_to_days(gains))
            self.is_same([paper.parts for paper in all_tables(days)], sorted(found))

    def test_days(self):
        for value in NO_DAYS:
            self.refuses(BadNumber("days"), all_tables, value)
        for days in (8, 9, 24, 48):
            self.refuses(TooMany("days", 7), all_tables, days)

    def test_time(self):
        begun = perf_counter()
        all_tables(7)
        self.assertLess(perf_counter() - begun, 2)


def orders(days):
    """Heights of level rows with all orders of the places, also with equal heights."""
    rows = [()]
    for _ in range(days):
        rows = [row + (height,) for row in rows for height in range(days)]
    return [row + row[:1] for row in rows]


class Facts(Case):

    def test_the_row_of_the_document(self):
        row = Row.of([0, -1, 2, 1, -2, -2, 1, 0])
        self.is_same(signs_to_days(row.gains), ((6,), (4,)))
        self.is_same(signs_to_days(row.times(-1).gains), ((4,), (6,)))
