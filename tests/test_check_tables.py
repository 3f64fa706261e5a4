"""Points 2, 3 and 11: which papers of tables, of told signs, and of missed lengths and others are right."""

import random
from time import perf_counter

from anyseven.apart import Joined, Parted, apart
from anyseven.check_tables import shows_apart, shows_signs, shows_table, shows_unlike
from anyseven.errors import BadLot, BadNumber, BadRow, TooMany, Twice
from anyseven.kept import Kept
from anyseven.made import made_row
from anyseven.rows import Row
from anyseven.tables import SignsRing, SignsRow, Table, signs_row, table_of
from anyseven.unlike import BothSigns, Home, unlike
from tests import bends
from tests.anew_signs import right_apart, right_signs, right_table, right_unlike
from tests.bends import STRANGE, bent_papers
from tests.support import Case, few
from tests.test_rows import NO_ROWS
from tests.test_tables import NO_DAYS, NO_LOTS, NO_TRUTHS, some_signs

SEVEN = Row([-1, 3, -1, -3, 0, 3, -1])
OTHER_PAPERS = (
    Table(None, None), SignsRow(None), SignsRing(None), BothSigns(None), Home(None), Parted(None), Joined(None, None), Kept(SEVEN),
    Table((6,), (4,)), SignsRow(SEVEN), SignsRing([0, 4, 0]), SignsRing(()), BothSigns(SEVEN), Home([0, 4, 0]), Home(()), Home([0]),
    Parted(SEVEN), Joined(6, [(3, 2)]), Joined(7, ()), Joined(0, ()))


class ShowsTable(Case):

    def shows(self, row, value):
        shown = shows_table(row, value)
        self.is_same(shown, right_table(row, value))
        self.is_same(shows_table(value=value, row=row), shown)
        return shown

    def test_bent_papers(self):
        chance = random.Random(351)
        count = [0, 0]
        for row in (SEVEN, Row([1]), Row([0]), Row([-1, -1, -1]), Row([1, -2, 2, 1, -2])):
            paper = table_of(row)
            self.is_same(self.shows(row, paper), True)
            for other in few(bent_papers(paper), chance, 300):
                count[self.shows(row, other)] += 1
        self.assertTrue(count[0] > 300 and count[1] > 5, count)

    def test_each_bend_of_one_paper(self):
        for gaining, losing, shown in (
                ((6,), (4,), True), ([6], [4], True), ((4,), (6,), False), ((6,), (), False), ((), (4,), False), ((6, 7), (4,), False),
                ((6, 6), (4,), False), ((6.0,), (4,), False), (6, 4, False), ((6,), None, False), (((6,),), (4,), False)):
            self.is_same(self.shows(SEVEN, Table(gaining, losing)), shown)
        self.is_same(self.shows(Row([1]), Table((1,), ())), True)
        self.is_same(self.shows(Row([1]), Table((True,), ())), False)

    def test_what_is_no_such_paper(self):
        for row in (SEVEN, Row([0])):
            for value in STRANGE + OTHER_PAPERS + bends.alike(Table((), ())) + bends.alike(Table((6,), (4,))):
                self.shows(row, value)
        for value in NO_ROWS:
            self.refuses(BadRow("row"), shows_table, value, Table((), ()))
            self.refuses(BadRow("row"), shows_table, value, None)


class ShowsSigns(Case):

    def shows(self, days, up, down, level, value):
        shown = shows_signs(days, up, down, level, value)
        self.is_same(shown, right_signs(days, up, down, level, value))
        self.is_same(shows_signs(value=value, is_level=level, losing=down, gaining=up, days=days), shown)
        return shown

    def test_bent_papers(self):
        chance = random.Random(352)
        count = {True: [0, 0], False: [0, 0]}
        asked = [(6, [4], [5]), (7, [4], [6]), (1, [1], []), (3, [9], [9]), (2, [1], [1]), (5, [2], [])]
        for days, up, down in asked + list(some_signs(353, 40, 6)):
            for level in (True, False):
                paper = signs_row(days, up, down, level)
                self.is_same(self.shows(days, up, down, level, paper), True)
                for other in few(bent_papers(paper), chance, 200):
                    count[bool(paper)][self.shows(days, up, down, level, other)] += 1
        self.assertTrue(min(count[True][0], count[False][0]) > 2000 and min(count[True][1], count[False][1]) > 200, count)

    def test_papers_of_other_signs(self):
        count = [0, 0]
        asked = [(days, up, down) for days, up, down in some_signs(354, 200, 5)][:60]
        papers = [signs_row(days, up, down, level) for days, up, down in asked for level in (True, False)]
        for days, up, down in asked:
            for level in (True, False):
                for paper in papers:
                    count[self.shows(days, up, down, level, paper)] += 1
        self.assertGreater(min(count), 300)

    def test_rings(self):
        for places, level, shown in (
                ((5, 0, 1), True, True), ([5, 6, 1], True, True), ((0, 1, 5), True, True), ((1, 5, 0), True, True), ((5, 0, 1), False, False),
                ((5, 1, 0), True, False), ((5, 0, 6, 1), True, False), ((5, 0), True, False), ((5, 0, 1, 5, 0, 1), True, True), ((), True, False),
                ((5, 0, True), True, False), ((5, False, 1), True, False), ((5, 0, 1.0), True, False), ((5, 0, 7), True, False),
                ((5, -6, 1), True, False), (None, True, False), (501, True, False), ("501", True, False), (((5,), 0, 1), True, False)):
            self.is_same(self.shows(6, [4], [5], level, SignsRing(places)), shown)
        self.is_same(self.shows(1, [1], [], True, SignsRing([0])), True)
        self.is_same(self.shows(1, [1], [], True, SignsRing([1])), True)
        self.is_same(self.shows(1, [1], [], True, SignsRing([1, 0, 0])), True)
        self.is_same(self.shows(1, [1], [], False, SignsRing([0])), False)
        self.is_same(self.shows(2, [1], [1], False, SignsRing([0, 1])), True)
        self.is_same(self.shows(2, [1], [1], False, SignsRing([0, 1, 2])), False)
        self.is_same(self.shows(2, [1], [1], True, SignsRing([0, 1, 2])), False)
        self.is_same(self.shows(2, [1], [1], True, SignsRing([2, 1])), True)

    def test_rows(self):
        for gains, level, shown in (
                ((-1, 3, -1, -3, 0, 3, -1), True, True), ((-1, 3, -1, -3, 0, 3, -1), False, True), ((1, -3, 1, 3, 0, -3, 1), True, False),
                ((-1, 3, -1, -3, 0, 3), True, False), ((0, 3, -1, -4, 0, 3, 0), False, True), ((0, 3, -1, -4, 0, 3, 0), True, False)):
            self.is_same(self.shows(7, [6], [4], level, SignsRow(Row(gains))), shown)
        self.is_same(self.shows(3, [9], [9], True, SignsRow(Row([1, 0, -1]))), True)
        self.is_same(self.shows(7, [6], [4], True, SignsRow([-1, 3, -1, -3, 0, 3, -1])), False)

    def test_what_is_no_such_paper(self):
        for level in (True, False):
            for value in STRANGE + OTHER_PAPERS:
                self.shows(7, [6], [4], level, value)
            for paper in (SignsRow(SEVEN), SignsRing([0, 4])):
                for value in bends.alike(paper):
                    self.is_same(shows_signs(7, [6], [4], level, value), False)

    def test_wrong_arguments(self):
        for value in NO_DAYS:
            self.refuses(BadNumber("days"), shows_signs, value, None, None, None, None)
        for value in NO_LOTS:
            self.refuses(BadLot("gaining"), shows_signs, 5, value, [1, 1], None, None)
            self.refuses(BadLot("losing"), shows_signs, 5, [1], value, 0, SignsRing([0]))
        self.refuses(Twice(2), shows_signs, 5, [2, 2], None, None, None)
        self.refuses(Twice(9), shows_signs, 5, [2], [9, 9], None, None)
        for value in NO_TRUTHS:
            self.refuses(BadNumber("is_level"), shows_signs, 5, [1], [1], value, SignsRing([0, 1]))


class ShowsUnlike(Case):

    def shows(self, days, up, down, value):
        shown = shows_unlike(days, up, down, value)
        self.is_same(shown, right_unlike(days, up, down, value))
        self.is_same(shows_unlike(value=value, losing=down, gaining=up, days=days), shown)
        return shown

    def test_bent_papers(self):
        chance = random.Random(361)
        count = {True: [0, 0], False: [0, 0]}
        for days, up, down in ((6, 4, 5), (7, 4, 6), (5, 4, 4), (6, 2, 3), (2, 1, 1), (8, 7, 5), (9, 3, 6), (10, 7, 9), (11, 10, 4)):
            paper = unlike(days, up, down)
            self.is_same(self.shows(days, up, down, paper), True)
            for other in few(bent_papers(paper), chance, 600):
                count[bool(paper)][self.shows(days, up, down, other)] += 1
        self.assertTrue(min(count[True][0], count[False][0]) > 200 and min(count[True][1], count[False][1]) > 3, count)

    def test_walks(self):
        for places, shown in (
                ((6, 1, 5, 0), True), ([6, 1, 5, 0], True), ((6, 1, 5), False), ((1, 5, 0), False), ((0, 4), False), ((0, 1, 5, 0), False),
                ((6, 1, 5, 0, 4), False), ((6, 1, 5, 6), False), ((6, True, 5, 0), False), ((6, 1, 5, False), False), ((), False),
                ((0,), False), ((6,), False), ((0, 0), False), (None, False), ((6.0, 1, 5, 0), False), ((6, 1, 5, 0, 6, 1, 5, 0), False)):
            self.is_same(self.shows(6, 4, 5, Home(places)), shown)
        # Both walks come to an end: each of them is right.
        self.is_same(self.shows(4, 2, 3, Home([0, 2, 4])), True)
        self.is_same(self.shows(4, 2, 3, Home([4, 1, 3, 0])), True)
        self.is_same(self.shows(4, 2, 3, Home([0, 2, 4, 1, 3, 0])), False)

    def test_rings(self):
        for days, up, down, places, shown in (
                (5, 4, 4, (0, 4, 0), True), (5, 4, 4, (1, 5, 1), True), (5, 4, 4, (4, 0, 4), True), (5, 4, 4, (0, 4, 0, 4, 0), True),
                (5, 4, 4, (0, 4), False), (5, 4, 4, (0,), False), (5, 4, 4, (), False), (5, 4, 4, (1, 5, 1, 5), False), (5, 4, 4, (2, 6, 2), False),
                (6, 2, 3, (1, 3, 0, 2, 4, 1), True), (6, 2, 3, (1, 3, 0, 2, 4), False), (6, 2, 3, (1, 3, 5, 2, 4, 1), True),
                (6, 2, 3, (0, 2, 4, 6), False), (6, 2, 3, (2, 4, 6, 3, 0, 2), True), (2, 1, 1, (True, 2, True), False), (2, 1, 1, (1, 2, 1), True),
                (7, 4, 6, (0, 4), False), (7, 4, 6, (7, 1, 5), False)):
            self.is_same(self.shows(days, up, down, Home(places)), shown)

    def test_rows(self):
        self.is_same(self.shows(7, 6, 4, BothSigns(SEVEN)), True)
        self.is_same(self.shows(7, 4, 6, BothSigns(SEVEN)), False)
        self.is_same(self.shows(7, 4, 6, BothSigns(SEVEN.times(-1))), True)
        self.is_same(self.shows(7, 6, 4, BothSigns(Row([0, 3, -1, -4, 0, 3, 0]))), False)

    def test_what_is_no_such_paper(self):
        for days, up, down in ((7, 6, 4), (6, 4, 5), (5, 4, 4)):
            for value in STRANGE + OTHER_PAPERS:
                self.shows(days, up, down, value)
            for paper in (BothSigns(SEVEN), Home((6, 1, 5, 0)), Home((0, 4, 0))):
                for value in bends.alike(paper):
                    self.is_same(shows_unlike(days, up, down, value), False)


class ShowsApart(Case):

    def shows(self, days, ones, others, value):
        shown = shows_apart(days, ones, others, value)
        self.is_same(shown, right_apart(days, ones, others, value))
        self.is_same(shows_apart(value=value, others=others, missed=ones, days=days), shown)
        return shown

    def test_bent_papers(self):
        chance = random.Random(371)
        count = {True: [0, 0], False: [0, 0]}
        for days, ones, others in (
                (6, [2], []), (7, [3], [4, 6]), (5, [3], [2, 4]), (1, [], []), (9, [5], [3, 4]), (12, [2, 3, 5], [1]), (8, [3], [3, 6]),
                (6, [1, 5], [4])):
            paper = apart(days, ones, others)
            self.is_same(self.shows(days, ones, others, paper), True)
            for other in few(bent_papers(paper), chance, 600):
                count[bool(paper)][self.shows(days, ones, others, other)] += 1
        self.assertTrue(min(count[True][0], count[False][0]) > 100 and min(count[True][1], count[False][1]) > 3, count)

    def test_any_made_length(self):
        for length, counts, shown in (
                (6, [(3, 2)], True), (9, [(3, 3)], True), (9, [(3, 1), (6, 1)], True), (7, [(3, 1), (4, 1)], False), (12, [(6, 2)], True),
                (12, [(3, 4)], True), (6, [(6, 1)], True), (3, [(3, 1)], False), (6, [(3, 1)], False), (6, [(3, 2), (6, 0)], False),
                (9, [(6, 1), (3, 1)], False), (6, [(3, 1), (3, 1)], False), (6.0, [(3, 2)], False), (True, [(3, 2)], False), (6, None, False),
                (6, [], False), (0, [], False), (6, [(2, 3)], False), (9, {3: 3}, False), (6, [(6, True)], False), (10 ** 70, [(3, 2)], False)):
            self.is_same(self.shows(12, [6, 3], [9, 7, 6], Joined(length, counts)), shown)
        self.is_same(self.shows(7, [3], [], Joined(6, [(3, 2)])), False)
        self.is_same(self.shows(7, [3], [6], Joined(6, [(3, 2)])), True)
        self.is_same(self.shows(7, [1], [1], Joined(True, [(1, 1)])), False)
        self.is_same(self.shows(7, [1], [1], Joined(1, [(1, 1)])), True)
        self.is_same(self.shows(7, [1], [1], Joined(1, [(1, True)])), False)

    def test_any_rows(self):
        # All of the ones are missed, with whatever signs, and so may be lengths that are in neither lot.
        for ones, others, shown in (
                ([4, 6], [], True), ([4], [5], True), ([6, 4], [1, 2, 3, 5], True), ([4], [6], False), ([5], [], False), ([], [], True),
                ([], [4], False), ([], [1, 5], True)):
            self.is_same(self.shows(7, ones, others, Parted(SEVEN)), shown)
        self.is_same(self.shows(7, [4], [], Parted(Row([1] * 7))), False)
        self.is_same(self.shows(8, [7], [], Parted(SEVEN)), False)
        self.is_same(self.shows(24, [23], [22], Parted(made_row(24, [23]))), True)

    def test_what_is_no_such_paper(self):
        for days, ones, others in ((7, [6, 4], []), (7, [3], [6]), (6, [2], [])):
            for value in STRANGE + OTHER_PAPERS:
                self.shows(days, ones, others, value)
            for paper in (Parted(SEVEN), Joined(6, [(3, 2)])):
                for value in bends.alike(paper):
                    self.is_same(shows_apart(days, ones, others, value), False)

    def test_too_many_days(self):
        self.refuses(TooMany("days", 24), shows_apart, 25, [24], [3], Parted(Row([0] * 25)))
        self.refuses(BadLot("missed"), shows_apart, 25, [25], [25], None)
        self.refuses(BadLot("others"), shows_apart, 48, [1], [48], None)


class Time(Case):

    def test_time(self):
        whole = list(range(1, 49))
        row, ring = signs_row(48, whole, []), signs_row(48, whole, whole)
        apart_row = apart(24, [13, 23], [2])
        begun = perf_counter()
        for _ in range(10):
            self.assertTrue(shows_signs(48, whole, [], False, row) and shows_signs(48, whole, whole, False, ring))
            self.assertTrue(shows_apart(24, [13, 23], [2], apart_row))
        self.assertLess(perf_counter() - begun, 3)
