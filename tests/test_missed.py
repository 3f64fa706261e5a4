"""Points 4 and 8: missed lengths of level rows, and those that are never missed."""

import random
from itertools import product
from time import perf_counter

from anyseven.errors import BadNumber, BadRow, Misfit
from anyseven.levelled import levelled
from anyseven.missed import Missed, missed, never_missed
from anyseven.missed_lots import missed_lots
from anyseven.rows import Row
from tests.anew import is_closed
from tests.anew_levels import signs_of
from tests.support import NO_INTEGERS, Case
from tests.test_rows import NO_ROWS

HUGE = 10 ** 5000


def level_rows(days, most):
    """All level rows of so many days with gains up to most, either way."""
    for gains in product(range(-most, most + 1), repeat=days - 1):
        yield Row(gains + (-sum(gains),))


def hopf(days, lot):
    """A level row that misses just this closed lot, made as point 8 tells, each length gaining."""
    below = [days - place in lot for place in range(days)]
    return Row.of([0] + [place - 1000 if below[place] else place for place in range(1, days)] + [0])


class MissedLengths(Case):

    def right(self, row):
        paper = missed(row)
        self.assertIs(type(paper), Missed)
        self.is_same((paper.word, paper.parts, bool(paper)), ("missed", (paper.signs,), True))
        self.is_same(paper.signs, signs_of(row.gains))
        return paper.signs

    def test_against_adding_up(self):
        count = 0
        for days, most in ((1, 0), (2, 3), (3, 3), (4, 3), (5, 2), (6, 2), (7, 1)):
            for row in level_rows(days, most):
                count += self.right(row) != ()
        self.assertGreater(count, 300)

    def test_some_rows(self):
        for gains, signs in (
                ([0], ()), ([0, 0], ()), ([5, -5], ()), ([1, -2, 2, 1, -2], ((3, 1),)), ([-1, 2, -2, -1, 2], ((3, -1),)),
                ([-1, 3, -1, -3, 0, 3, -1], ((4, -1), (6, 1))), ([-1, 1, 1, -1], ((3, 1),)), ([1, 0, -1], ()),
                ([1, -2, 1], ((2, -1),)), ([0] * 48, ()), ([HUGE, -2 * HUGE, HUGE], ((2, -1),))):
            self.is_same(self.right(Row(gains)), signs)
            self.is_same(missed(row=Row(gains)), Missed(signs))

    def test_the_length_of_all_days_is_none_of_them(self):
        for row in level_rows(3, 3):
            self.assertNotIn(3, [length for length, _ in self.right(row)])

    def test_lots_are_closed_and_signs_alike(self):
        rows = 0
        for days, most in ((2, 4), (3, 4), (4, 4), (5, 3), (6, 2), (7, 2)):
            lots = missed_lots(days)
            found = set()
            for row in level_rows(days, most):
                signs = dict(missed(row).signs)
                self.assertIn(tuple(signs), lots)
                self.assertTrue(is_closed(days, tuple(signs)))
                for one, other in product(signs, signs):
                    if one + other <= days:
                        self.assertEqual(signs[one], signs[other])
                        self.assertEqual(signs[one + other], signs[one])
                found.add(tuple(signs))
                rows += 1
            if days < 6:
                self.assertEqual(found, set(lots), days)
        self.assertGreater(rows, 10000)

    def test_one_sign_where_two_together_are_not_above_the_days(self):
        chance = random.Random(91)
        count = unlike = 0
        for _ in range(4000):
            days = chance.randint(5, 9)
            row = levelled(Row([chance.randint(-3, 3) for _ in range(days)]))
            for one, sign in missed(row).signs:
                for other, second in missed(row).signs:
                    if one + other <= days:
                        count += 1
                        self.is_same(sign, second)
                        self.assertNotEqual(one + other, days)
                    unlike += sign != second
        self.assertGreater(unlike, 2)
        for days in range(1, 17):
            for lot in missed_lots(days):
                count += sum(one + other <= days for one in lot for other in lot)
                self.is_same({sign for _, sign in missed(hopf(days, lot)).signs} <= {1}, True)
        self.assertGreater(count, 500)

    def test_just_closed_lots_are_missed(self):
        for days in range(1, 17):
            for lot in missed_lots(days):
                row = hopf(days, lot)
                self.is_same(row.total, 0)
                self.is_same(self.right(row), tuple((length, 1) for length in lot))
                self.is_same(self.right(row.times(-7)), tuple((length, -1) for length in lot))

    def test_backwards_and_times(self):
        chance = random.Random(92)
        for _ in range(300):
            row = levelled(Row([chance.randint(-3, 3) for _ in range(chance.randint(1, 48))]))
            signs = self.right(row)
            self.is_same(missed(row.backwards()).signs, signs)
            self.is_same(missed(row.times(5)).signs, signs)
            self.is_same(missed(row.times(-1)).signs, tuple((length, -sign) for length, sign in signs))
            self.is_same(missed(row.times(0)).signs, ())

    def test_walks_that_miss_even_lengths(self):
        count = 0
        for days in (2, 4, 6, 8, 10):
            for gains in product((1, -1), repeat=days):
                if sum(gains) == 0:
                    signs = dict(self.right(Row(gains)))
                    for length in signs:
                        if length % 2 == 0:
                            count += 1
                            self.is_same(signs.get(length - 1), signs[length])
                            self.is_same(signs.get(length + 1), signs[length])
        self.assertGreater(count, 5)

    def test_rows_that_are_not_level(self):
        for gains in ([1], [-1], [1, 2], [1, -2], [0, 0, 1], [1] * 48, [HUGE], [1, -1, 1]):
            self.refuses(Misfit("level"), missed, Row(gains))
            self.refuses(Misfit("level"), missed, row=Row(gains))

    def test_what_is_no_row(self):
        for value in NO_ROWS:
            self.refuses(BadRow("row"), missed, value)

    def test_long_rows(self):
        begun = perf_counter()
        self.is_same(missed(hopf(48, (47,))).signs, ((47, 1),))
        self.is_same(missed(Row([10 ** 6 - 1, 1 - 10 ** 6] * 24)).signs, ())
        self.is_same(len(missed(hopf(48, tuple(range(25, 48)))).signs), 23)
        self.assertLess(perf_counter() - begun, 1)


class NeverMissed(Case):

    def test_lengths_that_divide_the_days(self):
        for days in range(1, 49):
            right = tuple(length for length in range(1, days) if any(length * times == days for times in range(1, 49)))
            self.is_same(never_missed(days), right)
            self.is_same(never_missed(days=days), right)
        self.is_same([never_missed(days) for days in (1, 2, 3, 4, 13, 48)], [
            (), (1,), (1,), (1, 2), (1,), (1, 2, 3, 4, 6, 8, 12, 16, 24)])

    def test_all_others_are_missed(self):
        for days in range(1, 17):
            some = {length for lot in missed_lots(days) for length in lot}
            self.assertEqual(some | set(never_missed(days)), set(range(1, days)))
            self.assertFalse(some & set(never_missed(days)))
        for days in range(1, 7):
            for row in level_rows(days, 2):
                self.assertFalse({length for length, _ in missed(row).signs} & set(never_missed(days)))
        for days in (17, 30, 47, 48):
            for length in set(range(1, days)) - set(never_missed(days)):
                row = hopf(days, tuple(range(length, days, length)))
                self.assertIn((length, 1), missed(row).signs)

    def test_what_is_no_number_of_days(self):
        for value in NO_INTEGERS + (0, -1, 49, 50, 10 ** 70):
            self.refuses(BadNumber("days"), never_missed, value)
            self.refuses(BadNumber("days"), never_missed, days=value)
