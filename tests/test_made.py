"""Point 8: level rows made to miss a closed lot, and lots that walks miss."""

import random
from itertools import combinations, product
from time import perf_counter

from anyseven.check_missed import shows_made
from anyseven.closed import NotClosed, closure
from anyseven.errors import BadLot, BadNumber, Impossible, TooMany, Twice
from anyseven.made import made_row
from anyseven.missed import missed
from anyseven.missed_lots import missed_lots
from anyseven.rows import Row
from anyseven.walks import walk_lots
from tests.anew import is_closed
from tests.anew_levels import signs_of
from tests.support import NO_INTEGERS, Case
from tests.test_closed import NO_DAYS, NO_LOTS


def least_pair(days, lot):
    """The least pair that shows that a lot is not closed."""
    return min(
        (one, other) for one in lot for other in lot
        if one <= other and (one + other == days or (one + other < days and one + other not in lot)))


class MadeRows(Case):

    def right(self, days, lengths):
        """Whether there is a row, which is looked at."""
        if not is_closed(days, lengths):
            self.refuses(Impossible(NotClosed(*least_pair(days, lengths))), made_row, days, lengths)
            return False
        row = made_row(days, lengths)
        self.assertIs(type(row), Row)
        self.is_same((row.days, sum(row.gains)), (days, 0))
        self.is_same(signs_of(row.gains), tuple((length, 1) for length in sorted(lengths)))
        self.is_same(shows_made(days, lengths, row), True)
        self.is_same(made_row(lengths=tuple(lengths)[::-1], days=days), row)
        self.assertTrue(all(abs(height) < 10 ** 60 for height in row.heights))
        return True

    def test_all_lots_of_few_days(self):
        seen = [0, 0]
        for days in range(1, 11):
            for many in range(days):
                for lot in combinations(range(1, days), many):
                    seen[self.right(days, list(lot))] += 1
        self.assertEqual(seen[True], 1 + 1 + 2 + 2 + 5 + 4 + 11 + 10 + 21 + 22)
        self.assertGreater(seen[False], 800)

    def test_all_closed_lots(self):
        for days in range(1, 17):
            for lot in missed_lots(days):
                self.is_same(self.right(days, lot), True)

    def test_lots_of_more_days(self):
        chance = random.Random(111)
        seen = [0, 0]
        for _ in range(300):
            days = chance.randint(17, 24)
            lengths = chance.sample(range(2, days), chance.randint(1, 4))
            made = closure(days, lengths)
            seen[self.right(days, list(made.lengths) if made else lengths)] += 1
            chance.shuffle(lengths)
            seen[self.right(days, lengths)] += 1
        self.assertGreater(min(seen), 50)

    def test_edges(self):
        self.is_same(made_row(1, []), Row([0]))
        self.is_same(made_row(2, ()).total, 0)
        for lot in ((), (23,), (13, 14), tuple(range(13, 24)), (7, 14, 21), (9, 18), (22,)):
            self.is_same(self.right(24, list(lot)), True)
        for lot in ((12,), (1,), (23, 1), (7, 14), (8, 16), tuple(range(12, 24)), tuple(range(1, 24))):
            self.is_same(self.right(24, list(lot)), False)

    def test_what_divides_the_days_is_never_missed(self):
        for days in range(2, 25):
            for length in range(1, days):
                if days % length == 0:
                    with self.assertRaises(Impossible):
                        made_row(days, [length])

    def test_too_many_days(self):
        for days in (25, 26, 48):
            for lengths in ([], [1], [days - 1], [5, 3], [24]):
                self.refuses(TooMany("days", 24), made_row, days, lengths)

    def test_wrong_arguments(self):
        for value in NO_DAYS:
            self.refuses(BadNumber("days"), made_row, value, [1])
            self.refuses(BadNumber("days"), made_row, value, [1, 1])
            self.refuses(BadNumber("days"), made_row, lengths=None, days=value)
        for value in NO_LOTS:
            for days in (5, 24, 25, 48):
                self.refuses(BadLot("lengths"), made_row, days, value)
        for days, lengths in ((1, [1]), (5, [5]), (24, (3, 24)), (25, [25]), (48, [48]), (5, [3, 3, 5]), (25, (2, 2, True))):
            self.refuses(BadLot("lengths"), made_row, days, lengths)
        for days, lengths, twice in ((5, [3, 3], 3), (9, (4, 2, 2, 4), 2), (25, [7, 7], 7), (48, (1, 47, 47, 1), 47), (4, [2, 2], 2)):
            self.refuses(Twice(twice), made_row, days, lengths)

    def test_what_is_passed_stays(self):
        lengths = [7, 5]
        row = made_row(8, lengths)
        lengths.append(1)
        self.is_same(missed(row).signs, ((5, 1), (7, 1)))
        self.is_same(made_row(8, [7, 5]), row)

    def test_time(self):
        begun = perf_counter()
        for lot in ((), (13,), tuple(range(13, 24)), (23,)):
            for _ in range(50):
                made_row(24, lot)
        self.assertLess(perf_counter() - begun, 2)


class Walks(Case):

    def test_against_going_through_all(self):
        for days in (2, 4, 6, 8, 10, 12):
            first = {}
            for gains in product((-1, 1), repeat=days):
                if sum(gains) == 0:
                    first.setdefault(tuple(length for length, _ in signs_of(gains)), Row(gains))
            right = tuple(sorted(first.items(), key=lambda item: (len(item[0]), item[0])))
            self.is_same(walk_lots(days), right)
            self.is_same(walk_lots(days=days), right)

    def test_few_days(self):
        self.is_same(walk_lots(2), (((), Row([-1, 1])),))
        self.is_same(walk_lots(4), (((), Row([-1, -1, 1, 1])), ((3,), Row([-1, 1, 1, -1]))))

    def test_what_each_of_them_is(self):
        for days in (2, 4, 6, 8, 10, 12):
            told = walk_lots(days)
            lots = [lot for lot, _ in told]
            self.is_same(lots, sorted(lots, key=lambda lot: (len(lot), lot)))
            self.assertEqual(len(lots), len(set(lots)))
            for lot, walk in told:
                self.assertTrue(is_closed(days, lot))
                self.is_same((walk.days, walk.total, set(walk.gains)), (days, 0, {1, -1}))
                signs = dict(signs_of(walk.gains))
                self.is_same(tuple(signs), lot)
                for length in lot:
                    if length % 2 == 0:
                        self.is_same((signs[length - 1], signs[length + 1]), (signs[length],) * 2)

    def test_days(self):
        for value in NO_INTEGERS + (0, -2, 1, 3, 5, 11, 13, 47, 49, 50, 10 ** 70):
            self.refuses(BadNumber("days"), walk_lots, value)
            self.refuses(BadNumber("days"), walk_lots, days=value)
        for days in range(14, 49, 2):
            self.refuses(TooMany("days", 12), walk_lots, days)

    def test_time(self):
        begun = perf_counter()
        walk_lots(12)
        self.assertLess(perf_counter() - begun, 2)
