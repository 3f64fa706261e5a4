"""Points 2, 3 and 9: which papers of level stretches are right."""

import random
from fractions import Fraction
from time import perf_counter

from anyseven.check_level import shows_average, shows_level
from anyseven.errors import BadFraction, BadRow
from anyseven.level_stretches import Sign, Stretch, average_stretch, level_stretch, sum_begins
from anyseven.rows import Row
from tests.anew_levels import pair, right_stretch
from tests.bends import STRANGE, alike, bent_fraction, bent_papers
from tests.support import Case
from tests.test_level import NO_LENGTHS, lengths_of, some_rows
from tests.test_rows import NO_ROWS

THREE = Row([-1, 2, -1])
OTHER_PAPERS = (Stretch(None), Sign(None), Stretch(()), Sign(()), Stretch((0, 1)), Sign(1), Sign(-1), Sign(0), Stretch(1), Sign((1, 1)))


class Shows(Case):

    def level(self, row, length, value):
        shown = shows_level(row, pair(length), value)
        self.is_same(shown, right_stretch(row, length, 0, value))
        self.is_same(shows_level(value=value, length=list(pair(length)), row=row), shown)
        return shown

    def average(self, row, length, value):
        shown = shows_average(row, pair(length), value)
        self.is_same(shown, right_stretch(row, length, length * Fraction(row.total, row.days), value))
        self.is_same(shows_average(value=value, length=list(pair(length)), row=row), shown)
        return shown

    def test_what_is_returned_is_right(self):
        chance = random.Random(181)
        for row in some_rows(182, 100):
            for length in lengths_of(chance, row.days, 4):
                self.is_same(self.level(row, length, level_stretch(row, pair(length))), True)
                self.is_same(self.average(row, length, average_stretch(row, pair(length))), True)

    def test_any_moment(self):
        chance = random.Random(183)
        count = [0, 0]
        for row in some_rows(184, 60, 5, 2):
            for length in lengths_of(chance, row.days, 3):
                for begin in [Fraction(number, 6) for number in range(-6, 6 * row.days + 7)]:
                    count[self.level(row, length, Stretch(pair(begin)))] += 1
                    count[self.average(row, length, Stretch(list(pair(begin))))] += 1
                for first, last in sum_begins(row, pair(length), (0, 1)):
                    half = (Fraction(*first) + Fraction(*last)) / 2
                    for begin in (first, last, pair(half)):
                        self.is_same(self.level(row, length, Stretch(begin)), True)
        self.assertGreater(min(count), 500)

    def test_signs(self):
        chance = random.Random(185)
        count = [0, 0]
        for row in some_rows(186, 100):
            for length in lengths_of(chance, row.days, 3):
                for sign in (1, -1, 0, 2, True, False, 1.0, -1.0, "1", None, (1,)):
                    count[self.level(row, length, Sign(sign))] += 1
                    count[self.average(row, length, Sign(sign))] += 1
        self.assertGreater(min(count), 50)

    def test_bent_papers(self):
        count = [0, 0]
        for row, length in ((THREE, Fraction(1)), (THREE, Fraction(2)), (Row([1, 2, 6]), Fraction(3, 2)), (Row([0]), Fraction(1, 2)),
                            (Row([2, -4, 2, 2, -4]), Fraction(5, 3)), (Row([1, 1]), Fraction(2)), (Row([-1, -1]), Fraction(1))):
            for other in bent_papers(level_stretch(row, pair(length))):
                count[self.level(row, length, other)] += 1
            for other in bent_papers(average_stretch(row, pair(length))):
                count[self.average(row, length, other)] += 1
        for begin in bent_fraction((5, 3)):
            count[self.level(THREE, Fraction(1), Stretch(begin))] += 1
        self.assertTrue(count[0] > 300 and count[1] > 10, count)

    def test_each_bend_of_one_paper(self):
        for begin, shown in (
                ((1, 3), True), ([5, 3], True), ((2, 6), False), ((1, 4), False), ((0, 1), False), ((-5, -3), False), ((5.0, 3), False),
                ((5, 3, 1), False), ((5,), False), (5, False), ("5 3", False), (None, False), ((7, 3), False), ((8, 3), False)):
            self.is_same(self.level(THREE, Fraction(1), Stretch(begin)), shown)
        row = Row([-1, 2, -1, 0])
        # This one ends within the days, that one beyond them.
        self.is_same(self.level(row, Fraction(1), Stretch((3, 1))), True)
        self.is_same(self.level(row, Fraction(1), Stretch((4, 1))), False)
        self.is_same(self.level(row, Fraction(1), Stretch((7, 2))), False)
        self.is_same(self.level(Row([0, 0]), Fraction(1), Stretch((True, 1))), False)
        self.is_same(self.level(Row([0, 0]), Fraction(1), Stretch((1, True))), False)
        self.is_same(self.level(Row([0, 0]), Fraction(1), Stretch((1, 1))), True)
        self.is_same(self.level(Row([0, 0]), Fraction(1), Stretch((10 ** 70, 1))), False)
        self.is_same(self.level(Row([0, 0]), Fraction(1), Stretch((-1, 10 ** 70))), False)

    def test_what_is_no_such_paper(self):
        for row, length in ((THREE, Fraction(1)), (THREE, Fraction(2)), (Row([0]), Fraction(1))):
            for value in STRANGE + OTHER_PAPERS + alike(Stretch((0, 1))) + alike(Sign(1)):
                self.level(row, length, value)
                self.average(row, length, value)
            for value in STRANGE + alike(Stretch((0, 1))) + alike(Sign(1)):
                self.is_same(shows_level(row, pair(length), value), False)
                self.is_same(shows_average(row, pair(length), value), False)

    def test_wrong_arguments(self):
        for call in (shows_level, shows_average):
            for value in NO_LENGTHS:
                self.refuses(BadFraction("length"), call, THREE, value, Stretch((0, 1)))
                self.refuses(BadFraction("length"), call, THREE, value, None)
            for value in NO_ROWS:
                self.refuses(BadRow("row"), call, value, (1, 1), None)
                self.refuses(BadRow("row"), call, value, None, Sign(1))

    def test_time(self):
        chance = random.Random(187)
        row = Row([chance.randint(-999999, 999999) for _ in range(48)])
        begun = perf_counter()
        for number in range(1, 200):
            length = (number, 7) if number % 7 else (number // 7, 1)
            self.assertTrue(shows_level(row, length, level_stretch(row, length)))
            self.assertTrue(shows_average(row, length, average_stretch(row, length)))
        self.assertLess(perf_counter() - begun, 3)
