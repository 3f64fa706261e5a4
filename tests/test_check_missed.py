"""Points 2, 3 and 8: which papers of missed lots are right."""

import random
from itertools import combinations
from time import perf_counter

from anyseven.check_missed import shows_closed, shows_closure, shows_made, shows_missed
from anyseven.closed import Closed, Closure, Makes, NotClosed, closed, closure
from anyseven.errors import BadLot, BadNumber, BadRow, Impossible, Misfit, TooMany, Twice
from anyseven.levelled import levelled
from anyseven.made import made_row
from anyseven.missed import Missed, missed
from anyseven.rows import Row
from tests.anew_levels import right_closed, right_closure, right_made, right_missed
from tests.bends import STRANGE, alike, bent_papers, bent_row
from tests.support import Case
from tests.test_closed import NO_DAYS, NO_LOTS
from tests.test_rows import NO_ROWS

ROW = Row([-1, 3, -1, -3, 0, 3, -1])
OTHER_PAPERS = (
    Closed(), NotClosed(3, 3), Closure([3]), Makes([(1, 5)]), Missed([(4, -1), (6, 1)]), Missed(()), Closure(()), Makes(()),
    Missed(None), Closure(None), Makes(None), NotClosed(None, None), Makes([None]), Closure([None]), Missed([None]))


def lots_of(days):
    return [lot for many in range(days) for lot in combinations(range(1, days), many)]


def level_rows(seed, count, most_days=8):
    chance = random.Random(seed)
    for _ in range(count):
        yield levelled(Row([chance.randint(-3, 3) for _ in range(chance.randint(1, most_days))]))


class ShowsMissed(Case):

    def shows(self, row, value):
        shown = shows_missed(row, value)
        self.is_same(shown, right_missed(row, value))
        self.is_same(shows_missed(value=value, row=row), shown)
        return shown

    def test_what_is_returned_is_right(self):
        for row in [ROW, Row([0]), Row([1, -2, 2, 1, -2])] + list(level_rows(121, 200)):
            self.is_same(self.shows(row, missed(row)), True)

    def test_bent_papers(self):
        count = [0, 0]
        for row in [ROW, Row([0]), made_row(9, [5, 8]), made_row(7, [4, 5, 6]), made_row(12, [5, 10]).times(-1)]:
            for other in bent_papers(missed(row)):
                count[self.shows(row, other)] += 1
        self.assertTrue(count[0] > 500 and count[1] > 3, count)

    def test_each_bend_of_one_paper(self):
        for signs, shown in (
                ([(4, -1), (6, 1)], True), (((4, -1), [6, 1]), True), ([(6, 1), (4, -1)], False), ([(4, -1)], False),
                ([(4, 1), (6, 1)], False), ([(4, -1), (6, True)], False), ([(4, -1), (6, 1.0)], False),
                ([(4, -1), (5, 1), (6, 1)], False), ([(4, -1), (4, -1), (6, 1)], False), ([(4, -1), (6, 1), (7, 1)], False),
                ({4: -1, 6: 1}, False), ([4, 6], False), (None, False), ([(4, -1, 1), (6, 1)], False), ([(4, -1), None], False)):
            self.is_same(self.shows(ROW, Missed(signs)), shown)
        self.is_same(self.shows(Row([0]), Missed([])), True)
        self.is_same(self.shows(Row([-1, 2, -1]), Missed([(True, 1), (2, 1)])), False)

    def test_what_is_no_such_paper(self):
        for row in (ROW, Row([0])):
            for value in STRANGE + alike(missed(row)) + OTHER_PAPERS:
                self.shows(row, value)
            for value in STRANGE + alike(missed(row)):
                self.is_same(shows_missed(row, value), False)

    def test_rows(self):
        for value in NO_ROWS:
            self.refuses(BadRow("row"), shows_missed, value, Missed([]))
            self.refuses(BadRow("row"), shows_missed, value, None)
        for gains in ([1], [0, 1], [1, -2], [1] * 48):
            self.refuses(Misfit("level"), shows_missed, Row(gains), Missed([]))
            self.refuses(Misfit("level"), shows_missed, Row(gains), None)


class ShowsLots(Case):

    def shows(self, call, right, days, lengths, value):
        shown = call(days, lengths, value)
        self.is_same(shown, right(days, lengths, value))
        self.is_same(call(value=value, lengths=tuple(lengths)[::-1], days=days), shown)
        return shown

    def test_closed(self):
        for days in range(1, 9):
            for lot in lots_of(days):
                paper = closed(days, lot)
                self.is_same(self.shows(shows_closed, right_closed, days, lot, paper), True)
                self.is_same(self.shows(shows_closed, right_closed, days, lot, Closed()), bool(paper))
                count = 0
                for one in range(days + 1):
                    for other in range(days + 1):
                        count += self.shows(shows_closed, right_closed, days, lot, NotClosed(one, other))
                self.is_same(count > 0, not paper)

    def test_closure(self):
        for days in range(1, 9):
            for lot in lots_of(days):
                paper = closure(days, lot)
                self.is_same(self.shows(shows_closure, right_closure, days, lot, paper), True)
                for other in lots_of(days):
                    shown = self.shows(shows_closure, right_closure, days, lot, Closure(other))
                    self.is_same(shown, bool(paper) and other == paper.lengths)

    def test_any_counts(self):
        for counts, shown in (
                ([(2, 1), (5, 2)], True), ([(2, 6)], True), ([(3, 4)], True), ([(2, 2), (3, 1), (5, 1)], True),
                ([(5, 2), (2, 1)], False), ([(2, 3), (2, 3)], False), ([(2, 6), (3, 0)], False), ([(3, 0), (2, 6)], False),
                ([(2, 5), (3, 1)], False), ([(6, 2)], False), ([(2, 1), (5, 3), (5, -1)], False), ([(2, 9), (3, -2)], False),
                ([], False), ([(2, 6.0)], False), ([(2.0, 6)], False), ([(3, 4, 0)], False), ([[3, 4]], True), ([3, 4], False),
                ([(12, True)], False), ([(12, 1)], False), ([(4, 3)], False), ([(2, "6")], False), ([(2, 6), ()], False)):
            self.is_same(self.shows(shows_closure, right_closure, 12, [2, 3, 5], Makes(counts)), shown)
        self.is_same(self.shows(shows_closure, right_closure, 6, [1, 5], Makes([(1, 1), (5, 1)])), True)
        for counts in ([(True, 1), (5, 1)], [(1, True), (5, 1)], [(1, 1), (5, True)]):
            self.is_same(self.shows(shows_closure, right_closure, 6, [1, 5], Makes(counts)), False)

    def test_lengths_that_make_the_days_have_no_closure(self):
        self.is_same(shows_closure(6, [3], Closure([3])), False)
        for days, lot in ((6, [3]), (12, [2, 3, 5]), (2, [1])):
            self.is_same(shows_closure(days, lot, Closure(closure(days, lot).counts)), False)
            self.is_same(shows_closure(days, lot, Makes(lot)), False)
        self.is_same(shows_closure(7, [3], Closure([3, 6])), True)
        self.is_same(shows_closure(7, [3], Closure([3])), False)

    def test_bent_papers(self):
        count = [0, 0]
        for days, lot in ((7, [6, 4]), (7, [2, 4]), (7, [3]), (12, [2, 3, 5]), (10, [3]), (12, [8, 5]), (1, []), (9, [4, 8]), (6, [1, 5])):
            for call, right, told in ((shows_closed, right_closed, closed), (shows_closure, right_closure, closure)):
                for other in bent_papers(told(days, lot)):
                    count[self.shows(call, right, days, lot, other)] += 1
        self.assertTrue(count[0] > 1000 and count[1] > 5, count)

    def test_what_is_no_such_paper(self):
        for days, lot in ((7, [6, 4]), (7, [2, 4]), (5, [1]), (1, [])):
            for call, right, told in ((shows_closed, right_closed, closed), (shows_closure, right_closure, closure)):
                for value in STRANGE + OTHER_PAPERS + alike(Closure([4])) + alike(Makes([(1, 5)])) + alike(NotClosed(2, 4)):
                    self.shows(call, right, days, lot, value)
                for value in STRANGE + alike(told(days, lot)):
                    self.is_same(call(days, lot, value), False)

    def test_wrong_arguments(self):
        for call in (shows_closed, shows_closure, shows_made):
            for value in NO_DAYS:
                self.refuses(BadNumber("days"), call, value, [1], None)
                self.refuses(BadNumber("days"), call, value, None, Closed())
            for value in NO_LOTS:
                self.refuses(BadLot("lengths"), call, 5, value, Closed())
                self.refuses(BadLot("lengths"), call, 48, value, None)
            for days, lengths in ((1, [1]), (5, [5]), (48, [48]), (5, [3, 3, 5]), (25, (2, 2, True))):
                self.refuses(BadLot("lengths"), call, days, lengths, None)
            for days, lengths, twice in ((5, [3, 3], 3), (9, (4, 2, 2, 4), 2), (48, (1, 47, 47, 1), 47)):
                self.refuses(Twice(twice), call, days, lengths, None)
        self.is_same(shows_closed(48, [47], Closed()), True)
        self.is_same(shows_closure(48, [47], Closure([47])), True)


class ShowsMade(Case):

    def shows(self, days, lengths, value):
        shown = shows_made(days, lengths, value)
        self.is_same(shown, right_made(days, lengths, value))
        self.is_same(shows_made(value=value, lengths=tuple(lengths)[::-1], days=days), shown)
        return shown

    def test_all_rows_that_miss_it(self):
        seen = [0, 0]
        rows = list(level_rows(122, 150, 6))
        for days in range(1, 7):
            for lot in lots_of(days):
                try:
                    self.is_same(self.shows(days, lot, made_row(days, lot)), True)
                except Impossible:
                    pass
                for row in rows:
                    seen[self.shows(days, lot, row)] += 1
        self.assertGreater(min(seen), 100)

    def test_bent_rows(self):
        count = [0, 0]
        for days, lot in ((8, [7, 5]), (7, [4, 6]), (5, [3]), (1, []), (9, [5, 8]), (24, [7, 14, 21])):
            for other in bent_row(made_row(days, lot)):
                count[self.shows(days, lot, other)] += 1
        self.assertTrue(count[0] > 400 and count[1] > 5, count)

    def test_signs_and_days(self):
        self.is_same(self.shows(5, [3], Row([1, -2, 2, 1, -2])), True)
        self.is_same(self.shows(5, [3], Row([-1, 2, -2, -1, 2])), False)
        self.is_same(self.shows(7, [4, 6], ROW), False)
        self.is_same(self.shows(5, [], Row([1, -2, 2, 1, -2])), False)
        self.is_same(self.shows(4, [3], Row([1, -2, 2, 1, -2])), False)
        self.is_same(self.shows(5, [3], Row([1, -2, 2, 1, -1])), False)
        self.is_same(self.shows(3, [1], Row([1, 1, 1])), False)

    def test_lots_that_are_not_closed(self):
        for lot in ([3, 5], [4], [1], [3]):
            for value in (Row([0] * 8), made_row(8, [7, 5]), NotClosed(4, 4), None):
                self.is_same(self.shows(8, lot, value), False)

    def test_what_is_no_row(self):
        for value in STRANGE + OTHER_PAPERS + ((1, -2, 2, 1, -2), [0], "0") + NO_ROWS:
            self.is_same(shows_made(5, [3], value), False)
            self.is_same(self.shows(1, [], value), isinstance(value, Row))

    def test_too_many_days(self):
        for days in (25, 48):
            self.refuses(TooMany("days", 24), shows_made, days, [], Row([0] * days))
            self.refuses(TooMany("days", 24), shows_made, days, [1], None)
        self.refuses(BadLot("lengths"), shows_made, 25, [25], None)
        self.refuses(Twice(3), shows_made, 25, [3, 3], None)
        self.is_same(self.shows(24, [23], made_row(24, [23])), True)

    def test_time(self):
        row, lot = made_row(24, tuple(range(13, 24))), list(range(13, 24))
        begun = perf_counter()
        for _ in range(100):
            self.assertTrue(shows_made(24, lot, row) and shows_missed(row, Missed([(length, 1) for length in lot])))
            self.assertTrue(shows_closure(48, [47], Closure([47])) and shows_closed(48, list(range(25, 48)), Closed()))
        self.assertLess(perf_counter() - begun, 3)
