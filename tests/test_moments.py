"""Point 9: heights at moments, sums between two of them, and rows cut finer."""

import random
from fractions import Fraction
from time import perf_counter

from anyseven.errors import BadFraction, BadNumber, BadRow, TooMany
from anyseven.moments import cut_finer, height_at, sum_between
from anyseven.rows import Row
from tests.anew_levels import height, pair
from tests.support import NO_INTEGERS, OTHER, Case
from tests.test_rows import NO_ROWS, some_rows

HUGE = 10 ** 5000
NO_FRACTIONS = (
    True, False, None, 0, 1, 0.5, "", "12", "1 2", b"12", [], (), [1], (1,), (1, 2, 3), [[1, 2]], {1: 2}, {1, 2}, OTHER, tuple,
    (1, 0), (0, 0), (1, -2), (-1, -2), (2, 4), (0, 2), (4, 2), (True, 1), (1, True), (False, 1), (1.0, 2), (1, 2.0), ("1", "2"),
    (None, 1), (1, None), ([1], 2), Fraction(1, 2), range(1, 3))
THREE = Row([-1, 2, -1])


def moments_of(chance, days, count=20):
    """Moments of a row of so many days: places, ones near them, and others."""
    yield from [Fraction(place) for place in range(days + 1)]
    for _ in range(count):
        by = chance.choice((2, 3, 7, 10 ** 6, 10 ** 30))
        yield Fraction(chance.randint(0, days * by), by)
    yield from (Fraction(1, 10 ** 9), days - Fraction(1, 10 ** 9))


class Heights(Case):

    def test_against_adding_up(self):
        chance = random.Random(131)
        for gains in some_rows():
            row = Row(gains)
            for moment in moments_of(chance, row.days):
                self.is_same(height_at(row, pair(moment)), pair(height(gains, moment)))
                self.is_same(height_at(moment=list(pair(moment)), row=row), pair(height(gains, moment)))

    def test_places(self):
        for gains in some_rows():
            row = Row(gains)
            for place in range(row.days + 1):
                self.is_same(height_at(row, (place, 1)), (row.heights[place], 1))

    def test_edges(self):
        self.is_same([height_at(THREE, moment) for moment in ((0, 1), (3, 1), (1, 3), (8, 3), (3, 2))], [
            (0, 1), (0, 1), (-1, 3), (1, 3), (0, 1)])
        self.is_same(height_at(Row([7]), (2, 7)), (2, 1))
        self.is_same(height_at(Row([HUGE]), (1, 2)), (HUGE // 2, 1))
        self.is_same(height_at(Row([-3] * 48), (95, 2)), (-285, 2))

    def test_no_moments(self):
        for value in NO_FRACTIONS + ((-1, 1), (-1, 10 ** 9), (4, 1), (7, 2), (3 * 10 ** 9 + 1, 10 ** 9), (HUGE, 1)):
            self.refuses(BadFraction("moment"), height_at, THREE, value)
            self.refuses(BadFraction("moment"), height_at, moment=value, row=THREE)

    def test_no_rows(self):
        for value in NO_ROWS:
            self.refuses(BadRow("row"), height_at, value, (0, 1))
            self.refuses(BadRow("row"), height_at, value, None)


class Sums(Case):

    def test_against_adding_up(self):
        chance = random.Random(132)
        for gains in some_rows():
            row, moments = Row(gains), sorted(moments_of(chance, len(gains), 6))
            for at, first in enumerate(moments):
                for last in moments[at:]:
                    right = pair(height(gains, last) - height(gains, first))
                    self.is_same(sum_between(row, pair(first), pair(last)), right)
            self.is_same(sum_between(last=[row.days, 1], first=[0, 1], row=row), (row.total, 1))

    def test_whole_stretches(self):
        row = Row([5, -1, 0, 7])
        for begin in range(4):
            for length in range(1, 5 - begin):
                self.is_same(sum_between(row, (begin, 1), (begin + length, 1)), (row.sum_of(begin, length), 1))
            self.is_same(sum_between(row, (begin, 1), (begin, 1)), (0, 1))

    def test_two_parts_add_up(self):
        chance = random.Random(133)
        for _ in range(100):
            row = Row([chance.randint(-9, 9) for _ in range(5)])
            first, between, last = sorted(Fraction(chance.randint(0, 35), 7) for _ in range(3))
            one, other = sum_between(row, pair(first), pair(between)), sum_between(row, pair(between), pair(last))
            self.is_same(sum_between(row, pair(first), pair(last)), pair(Fraction(*one) + Fraction(*other)))

    def test_no_moments(self):
        for value in NO_FRACTIONS + ((-1, 1), (-1, 10 ** 9), (4, 1), (10, 3), (HUGE, 1)):
            self.refuses(BadFraction("first"), sum_between, THREE, value, (3, 1))
            self.refuses(BadFraction("first"), sum_between, THREE, value, value)
            self.refuses(BadFraction("last"), sum_between, THREE, (0, 1), value)
            self.refuses(BadFraction("last"), sum_between, THREE, [3, 1], value)
            for row in NO_ROWS:
                self.refuses(BadRow("row"), sum_between, row, value, (3, 1))
        for first, last in (((1, 1), (0, 1)), ((1, 2), (1, 3)), ((3, 1), (2, 1)), ((10 ** 9, 10 ** 9 + 1), (10 ** 9 - 1, 10 ** 9))):
            self.refuses(BadFraction("last"), sum_between, THREE, first, last)
        self.is_same(sum_between(THREE, (1, 2), (1, 2)), (0, 1))


class Finer(Case):

    def test_each_day_so_many_times(self):
        for gains in some_rows():
            for parts in (1, 2, 3, 4, 12, 24, 48):
                row = Row(gains)
                if row.days * parts > 48:
                    self.refuses(TooMany("days", 48), cut_finer, row, parts)
                else:
                    right = tuple(gain for gain in gains for _ in range(parts))
                    self.is_same(cut_finer(row, parts).gains, right)
                    self.is_same(cut_finer(parts=parts, row=row), Row(right))

    def test_heights(self):
        chance = random.Random(134)
        for _ in range(60):
            gains = [chance.randint(-5, 5) for _ in range(chance.randint(1, 8))]
            parts = chance.randint(1, 6)
            finer = cut_finer(Row(gains), parts)
            for moment in moments_of(chance, len(gains), 5):
                self.is_same(height_at(finer, pair(parts * moment)), pair(parts * height(gains, moment)))

    def test_beyond(self):
        self.is_same(cut_finer(Row([1] * 24), 2), Row([1] * 48))
        self.is_same(cut_finer(Row([1] * 48), 1), Row([1] * 48))
        for days, parts in ((48, 2), (25, 2), (24, 3), (1, 49), (7, 7), (1, HUGE), (48, 10 ** 70)):
            self.refuses(TooMany("days", 48), cut_finer, Row([1] * days), parts)

    def test_wrong_arguments(self):
        for value in NO_INTEGERS + (0, -1, -48, -HUGE):
            self.refuses(BadNumber("parts"), cut_finer, THREE, value)
            self.refuses(BadNumber("parts"), cut_finer, Row([1] * 48), value)
        for value in NO_ROWS:
            self.refuses(BadRow("row"), cut_finer, value, 2)
            self.refuses(BadRow("row"), cut_finer, value, 0)


class Time(Case):

    def test_time(self):
        row = Row([10 ** 6 - 1, 1 - 10 ** 6] * 24)
        begun = perf_counter()
        for place in range(1, 2001):
            height_at(row, (place, 999983))
            sum_between(row, (place, 999983), (48, 1))
        self.assertLess(perf_counter() - begun, 2)
