"""Point 11: tables of rows, rows of told signs or rings, and signs that are forced."""

import random
from itertools import combinations, product
from time import perf_counter

from anyseven.check_tables import shows_signs, shows_table
from anyseven.errors import BadLot, BadNumber, BadRow, Impossible, Twice
from anyseven.kept import kept
from anyseven.levelled import levelled
from anyseven.papers import Denial
from anyseven.rows import Row
from anyseven.signs import sign_book
from anyseven.sorts import table_words
from anyseven.tables import SignsRing, SignsRow, Table, forced, signs_row, table_of
from tests.anew_signs import forced_lots, has_signs, is_possible, right_signs, signs_to_days
from tests.support import NO_INTEGERS, NO_LISTS, NO_LISTS_OF_INTEGERS, OTHER, Case
from tests.test_rows import NO_ROWS

HUGE = 10 ** 5000
NO_DAYS = NO_INTEGERS + (0, -1, 49, 10 ** 70)
NO_LOTS = NO_LISTS + NO_LISTS_OF_INTEGERS + ([0], (0, 1), [-1], [1, -2], [0, 0], [-HUGE])
NO_TRUTHS = (None, 0, 1, "", "True", 1.0, 0.0, [], [True], (), (False,), {}, OTHER, bool)


def all_lots(days):
    return [lot for many in range(days + 1) for lot in combinations(range(1, days + 1), many)]


def some_signs(seed, count, most_days=9):
    """Days and two lots, in any order, also of longer lengths."""
    chance = random.Random(seed)
    for _ in range(count):
        days = chance.randint(1, most_days)
        told = chance.sample(range(1, days + 3), chance.randint(0, min(4, days + 2)))
        cut = chance.randint(0, len(told))
        up, down = told[:cut], told[cut:]
        if up and chance.random() < 0.1:
            down.append(up[0])
        yield days, up, down


class Tables(Case):

    def test_against_adding_up(self):
        chance = random.Random(301)
        for days in (1, 2, 3, 4):
            for gains in product(range(-2, 3), repeat=days):
                self.right(Row(gains))
        for _ in range(150):
            self.right(Row([chance.randint(-9, 9) for _ in range(chance.randint(1, 20))]))

    def right(self, row):
        paper = table_of(row)
        self.is_same((type(paper), paper.word, paper.parts, bool(paper)), (Table, "table", signs_to_days(row.gains), True))
        self.is_same((paper.gaining, paper.losing), paper.parts)
        self.is_same(table_of(row=row) == paper, True)
        self.is_same(shows_table(row, paper), True)
        words = table_words(row)
        for length in range(1, row.days + 1):
            self.is_same(length in paper.gaining, words[length - 1] == "gains")
            self.is_same(length in paper.losing, words[length - 1] == "loses")

    def test_edges(self):
        self.is_same(table_of(Row([0])), Table((), ()))
        self.is_same(table_of(Row([-HUGE])), Table((), (1,)))
        self.is_same(table_of(Row([1] * 48)), Table(tuple(range(1, 49)), ()))
        self.is_same(table_of(Row([-1] * 48)), Table([], list(range(1, 49))))

    def test_backwards_and_turned(self):
        chance = random.Random(302)
        for _ in range(60):
            row = Row([chance.randint(-4, 4) for _ in range(chance.randint(1, 12))])
            paper = table_of(row)
            self.is_same(table_of(row.backwards()), paper)
            self.is_same(table_of(row.times(5)), paper)
            self.is_same(table_of(row.times(-1)), Table(paper.losing, paper.gaining))

    def test_no_rows(self):
        for value in NO_ROWS:
            self.refuses(BadRow("row"), table_of, value)


class Signs(Case):

    def right(self, days, up, down, level):
        paper = signs_row(days, up, down, level)
        self.assertTrue(right_signs(days, up, down, level, paper), (days, up, down, level, paper.parts))
        self.is_same(shows_signs(days, up, down, level, paper), True)
        self.is_same(signs_row(is_level=level, losing=tuple(down), gaining=tuple(up), days=days) == paper, True)
        if not level:
            self.is_same(signs_row(days, up, down) == paper, True)
        if type(paper) is SignsRow:
            self.is_same((paper.word, paper.parts, bool(paper)), ("signsrow", (paper.row,), True))
            self.assertTrue(all(abs(height) < 10 ** 60 for height in paper.row.heights))
        else:
            self.is_same((type(paper), paper.word, paper.parts, bool(paper)), (SignsRing, "signsring", (paper.places,), False))
            self.assertTrue(isinstance(paper, Denial))
        return bool(paper)

    def test_all_of_few_days(self):
        seen = {}
        for days in range(1, 5):
            for up in all_lots(days + 1):
                for down in all_lots(days + 1):
                    for level in (True, False):
                        told = self.right(days, list(up), list(down), level)
                        self.is_same(told, is_possible(days, up, down, level))
                        seen[told, level] = seen.get((told, level), 0) + 1
        self.assertTrue(len(seen) == 4 and min(seen.values()) > 30, seen)

    def test_some_of_more_days(self):
        seen = {}
        for days, up, down in some_signs(303, 300):
            for level in (True, False):
                told = self.right(days, up, down, level)
                self.is_same(told, is_possible(days, up, down, level))
                seen[told, level] = seen.get((told, level), 0) + 1
        self.assertTrue(min(seen.values()) > 40, seen)

    def test_as_sign_books_are_kept(self):
        for days, up, down in some_signs(304, 150):
            self.is_same(self.right(days, up, down, False), bool(kept(sign_book(days, up, down))))

    def test_no_row_where_there_is_none(self):
        for days, up, down in some_signs(305, 60, 4):
            for level in (True, False):
                if not signs_row(days, up, down, level):
                    for gains in product(range(-3, 4), repeat=days):
                        self.is_same(has_signs(days, up, down, level, Row(gains)), False)

    def test_longer_lengths_say_nothing(self):
        for days in (1, 3, 48):
            for level in (True, False):
                lengths = [days + 1, HUGE, 10 ** 70]
                self.is_same(self.right(days, lengths, lengths, level), True)
                self.is_same(self.right(days, lengths, lengths[::-1] + [1], level), not level)

    def test_a_length_in_both_lots(self):
        for level in (True, False):
            for days in (2, 5, 48):
                for length in (1, days - 1, days):
                    self.is_same(self.right(days, [length], [length], level), False)

    def test_level_rows(self):
        for days in (1, 2, 12, 48):
            self.is_same(self.right(days, [], [], True), True)
            for length in range(1, days + 1):
                # What divides the days has no sign in a level row, all others can have one.
                self.is_same(self.right(days, [length], [], True), days % length != 0)
                self.is_same(self.right(days, [], [length], True), days % length != 0)
                self.is_same(self.right(days, [length], [], False), True)
        self.is_same(signs_row(1, [1], [], True), SignsRing([0]))
        self.is_same(signs_row(7, [], [7], True), SignsRing([0]))

    def test_turned(self):
        for days, up, down in some_signs(306, 100):
            for level in (True, False):
                self.is_same(self.right(days, up, down, level), self.right(days, down, up, level))

    def test_days(self):
        for call in (signs_row, forced):
            for value in NO_DAYS:
                self.refuses(BadNumber("days"), call, value, [], [])
                self.refuses(BadNumber("days"), call, value, None, [1, 1], 0)

    def test_lots(self):
        for call in (signs_row, forced):
            for value in NO_LOTS:
                self.refuses(BadLot("gaining"), call, 5, value, [])
                self.refuses(BadLot("gaining"), call, 5, value, [1, 1], None)
                self.refuses(BadLot("losing"), call, 5, [3], value)
                self.refuses(BadLot("losing"), call, 5, [1], value, None)
            for value, twice in (([2, 2], 2), ((1, 3, 9, 3, 1), 3), ([HUGE, 1, HUGE], HUGE)):
                self.refuses(Twice(twice), call, 5, value, [])
                self.refuses(Twice(twice), call, 5, value, None, None)
                self.refuses(Twice(twice), call, 5, [1], value, 0)
            self.refuses(BadLot("gaining"), call, 5, [2, 2, 0], [])

    def test_truths(self):
        for call in (signs_row, forced):
            for value in NO_TRUTHS:
                self.refuses(BadNumber("is_level"), call, 5, [2], [], value)
                self.refuses(BadNumber("is_level"), call, 5, [1], [1], is_level=value)

    def test_time(self):
        begun = perf_counter()
        whole = list(range(1, 49))
        for level in (True, False):
            for up, down in ((whole, []), (whole, whole), ([], whole), (whole[24:], whole[:24]), ([47], [46])):
                signs_row(48, up, down, level)
        self.assertLess(perf_counter() - begun, 3)


class Forced(Case):

    def right(self, days, up, down, level):
        if not is_possible(days, up, down, level):
            self.refuses(Impossible(signs_row(days, up, down, level)), forced, days, up, down, level)
            return None
        paper = forced(days, up, down, level)
        self.is_same((type(paper), paper.parts), (Table, forced_lots(days, up, down, level)))
        self.is_same(forced(is_level=level, losing=tuple(down), gaining=tuple(up), days=days) == paper, True)
        if not level:
            self.is_same(forced(days, up, down) == paper, True)
        return paper.parts

    def test_all_of_few_days(self):
        for days in range(1, 5):
            for up in all_lots(days):
                for down in all_lots(days):
                    for level in (True, False):
                        self.right(days, list(up), list(down), level)

    def test_some_of_more_days(self):
        count = 0
        for days, up, down in some_signs(311, 200, 12):
            for level in (True, False):
                told = self.right(days, up, down, level)
                if told is not None:
                    told_up, told_down = ([length for length in lot if length <= days] for lot in (up, down))
                    self.assertTrue(set(told_up) <= set(told[0]) and set(told_down) <= set(told[1]))
                    count += len(told[0]) + len(told[1]) > len(told_up) + len(told_down)
        self.assertGreater(count, 20)

    def test_against_all_rows(self):
        for days, up, down in some_signs(312, 80, 4):
            for level in (True, False):
                told = self.right(days, up, down, level)
                rows = [gains for gains in product(range(-3, 4), repeat=days) if has_signs(days, up, down, level, Row(gains))]
                self.is_same(told is None, rows == [])
                if told is not None:
                    tables = [signs_to_days(gains) for gains in rows]
                    for at in (0, 1):
                        self.is_same(told[at], tuple(sorted(set.intersection(*[set(table[at]) for table in tables]))))

    def test_level_rows_against_all(self):
        for days, up, down in ((5, [3], []), (7, [4], [6]), (7, [5], []), (6, [5], [])):
            told = self.right(days, up, down, True)
            chance = random.Random(313)
            for _ in range(3000):
                row = levelled(Row([chance.randint(-3, 3) for _ in range(days)]))
                if has_signs(days, up, down, True, row):
                    table = signs_to_days(row.gains)
                    self.assertTrue(set(told[0]) <= set(table[0]) and set(told[1]) <= set(table[1]))

    def test_edges(self):
        self.is_same(forced(1, [], []), Table((), ()))
        self.is_same(forced(48, [1], []), Table(list(range(1, 49)), []))
        self.is_same(forced(48, [], [5]).losing, tuple(range(5, 49, 5)))
        self.is_same(forced(5, [9], [7], True), Table((), ()))
        self.is_same(forced(8, [5], [], True).parts, ((5,), ()))
        self.is_same(forced(9, [4], [], True).parts, ((4, 8), ()))

    def test_time(self):
        begun = perf_counter()
        whole = list(range(1, 49))
        for level, up, down in ((False, whole, []), (False, [], whole), (True, whole[24:47], []), (False, [47], [46]), (True, [], [])):
            forced(48, up, down, level)
        self.assertLess(perf_counter() - begun, 3)
