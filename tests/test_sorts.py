"""Point 4: sums, sorts, least and greatest sums; the steady part and the levelled row."""

import random
from fractions import Fraction

from anyseven.errors import BadNumber, BadRow
from anyseven.levelled import is_level, levelled, steady
from anyseven.rows import Row
from anyseven.sorts import greatest_sum, least_sum, sort_of, sums, table_words
from tests.support import NO_INTEGERS, Case
from tests.test_rows import NO_ROWS


def some_rows():
    chance = random.Random(5)
    rows = [[chance.randint(-3, 3) for _ in range(days)] for days in range(1, 13) for _ in range(8)]
    return rows + [
        [0], [5], [-5], [0] * 48, [1] * 48, [-1] * 48, [1, -1] * 24, [10 ** 70, -10 ** 70, 1], [2, 0, -2, 2, 0, -2],
        [2, -3, 2, -3], [0, 1], [0, -1], [1, 0, 1], [-1, 0, -1]]


def word_of(found):
    if all(number > 0 for number in found):
        return "gains"
    if all(number < 0 for number in found):
        return "loses"
    return "flat" if all(number == 0 for number in found) else "mixed"


class Sums(Case):

    def test_sums_and_sorts(self):
        words = {"gains": 0, "loses": 0, "flat": 0, "mixed": 0}
        for gains in some_rows():
            row, table = Row(gains), []
            for length in range(1, len(gains) + 1):
                found = tuple(sum(gains[begin:begin + length]) for begin in range(len(gains) - length + 1))
                self.is_same(sums(row, length), found)
                self.is_same(sort_of(row, length), word_of(found))
                self.is_same(least_sum(row, length), (min(found), found.index(min(found))))
                self.is_same(greatest_sum(row, length), (max(found), found.index(max(found))))
                table.append(word_of(found))
                words[table[-1]] += 1
            self.is_same(table_words(row), tuple(table))
        self.assertTrue(min(words.values()) > 20, words)

    def test_by_name(self):
        row = Row([1, 2, -4])
        self.is_same(sums(length=2, row=row), (3, -2))
        self.is_same(sort_of(length=2, row=row), "mixed")
        self.is_same(least_sum(length=2, row=row), (-2, 1))
        self.is_same(greatest_sum(length=2, row=row), (3, 0))
        self.is_same(table_words(row=row), ("mixed", "mixed", "loses"))

    def test_facts(self):
        for gains in some_rows():
            row = Row(gains)
            turned = {"gains": "loses", "loses": "gains", "flat": "flat", "mixed": "mixed"}
            self.is_same(table_words(row.times(7)), table_words(row))
            self.is_same(table_words(row.times(-1)), tuple(turned[word] for word in table_words(row)))
            self.assertNotEqual(table_words(row)[-1], "mixed")
            for length in range(1, len(row) + 1):
                self.is_same(sums(row.backwards(), length), sums(row, length)[::-1])

    def test_what_is_passed(self):
        for call in (sums, sort_of, least_sum, greatest_sum):
            for value in NO_ROWS:
                self.refuses(BadRow("row"), call, value, 1)
                self.refuses(BadRow("row"), call, value, 0)
            for value in NO_INTEGERS + (0, -1, 4, 49, 10 ** 70):
                self.refuses(BadNumber("length"), call, Row([1, 2, 3]), value)
        for value in NO_ROWS:
            self.refuses(BadRow("row"), table_words, value)


class Levelled(Case):

    def test_steady_parts(self):
        for gains in some_rows():
            right = Fraction(sum(gains), len(gains))
            self.is_same(steady(Row(gains)), (right.numerator, right.denominator))
            self.is_same(is_level(row=Row(gains)), sum(gains) == 0)
        self.is_same(steady(row=Row([0, 0, 0])), (0, 1))

    def test_levelled_rows(self):
        for gains in some_rows():
            days, total = len(gains), sum(gains)
            flat = levelled(Row(gains))
            self.is_same(flat.gains, tuple(days * gain - total for gain in gains))
            self.is_same(is_level(flat), True)
            self.is_same(levelled(Row(gains).plus(3)), flat)
            if total == 0:
                self.is_same(levelled(row=Row(gains)), Row(gains).times(days))

    def test_what_is_passed(self):
        for value in NO_ROWS:
            for call in (is_level, steady, levelled):
                self.refuses(BadRow("row"), call, value)
