"""Points 8 and 11: level rows that miss some lengths and not others."""

import random
from itertools import combinations
from time import perf_counter

from anyseven.apart import Joined, Parted, apart
from anyseven.check_tables import shows_apart
from anyseven.errors import BadLot, BadNumber, TooMany, Twice
from anyseven.papers import Denial
from tests.anew import made_by
from tests.anew_signs import right_apart
from tests.support import Case
from tests.test_closed import NO_DAYS, NO_LOTS


class Apart(Case):

    def right(self, days, ones, others):
        paper = apart(days, ones, others)
        self.assertTrue(right_apart(days, ones, others, paper), (days, ones, others, paper.parts))
        self.is_same(shows_apart(days, ones, others, paper), True)
        self.is_same(apart(others=tuple(others)[::-1], missed=tuple(ones)[::-1], days=days) == paper, True)
        made = made_by(days, ones)
        joined = [length for length in [days] + sorted(others) if length in made]
        if joined:
            self.is_same((type(paper), paper.word, paper.parts, bool(paper)), (Joined, "joined", (joined[0], paper.counts), False))
            self.is_same(paper.length, joined[0])
            self.assertTrue(isinstance(paper, Denial))
        else:
            self.is_same((type(paper), paper.word, paper.parts, bool(paper)), (Parted, "parted", (paper.row,), True))
        return bool(paper)

    def test_all_of_few_days(self):
        seen = [0, 0]
        for days in range(1, 7):
            lots = [lot for many in range(days) for lot in combinations(range(1, days), many)]
            for ones in lots:
                for others in lots:
                    seen[self.right(days, list(ones), list(others))] += 1
        self.assertGreater(min(seen), 100)

    def test_more_days(self):
        seen = [0, 0]
        chance = random.Random(341)
        for _ in range(400):
            days = chance.randint(7, 24)
            ones = chance.sample(range(2, days), chance.randint(0, 3))
            others = chance.sample(range(1, days), chance.randint(0, 4))
            seen[self.right(days, ones, others)] += 1
        self.assertGreater(min(seen), 80)

    def test_the_days_come_first(self):
        self.is_same(apart(6, [2], [4, 2]).length, 6)
        self.is_same(apart(7, [3], [6, 3]).parts, (3, ((3, 1),)))
        self.is_same(apart(7, [3], [6, 5]).parts, (6, ((3, 2),)))
        self.is_same(apart(11, [4], [9, 8, 10, 4]).parts, (4, ((4, 1),)))

    def test_a_length_in_both_lots(self):
        for days in (5, 7, 24):
            for length in range(1, days):
                self.is_same(self.right(days, [length], [length]), False)

    def test_edges(self):
        self.is_same(apart(1, [], []).row.gains, (0,))
        for days in (2, 23, 24):
            self.is_same(self.right(days, [], list(range(1, days))), True)
        self.is_same(self.right(24, [23], list(range(1, 23))), True)
        self.is_same(self.right(24, [5, 7], [6, 8, 9, 11, 13]), False)
        self.is_same(self.right(24, [11], [22]), False)
        self.is_same(self.right(24, [11], list(range(1, 11)) + list(range(12, 22)) + [23]), True)

    def test_too_many_days(self):
        for days in (25, 48):
            for ones, others in (([], []), ([1], [1]), ([2], [4]), ([24], [3])):
                self.refuses(TooMany("days", 24), apart, days, ones, others)

    def test_wrong_arguments(self):
        for call in (apart, lambda days, ones, others: shows_apart(days, ones, others, None)):
            for value in NO_DAYS:
                self.refuses(BadNumber("days"), call, value, [], [])
                self.refuses(BadNumber("days"), call, value, None, [1, 1])
            for value in NO_LOTS:
                for days in (5, 25):
                    self.refuses(BadLot("missed"), call, days, value, [])
                    self.refuses(BadLot("missed"), call, days, value, [2, 2])
                    self.refuses(BadLot("others"), call, days, [3], value)
            for days, lengths in ((1, [1]), (5, [5]), (25, [25]), (5, [3, 3, 5])):
                self.refuses(BadLot("missed"), call, days, lengths, None)
                self.refuses(BadLot("others"), call, days, [], lengths)
            for days in (9, 48):
                self.refuses(Twice(4), call, days, (4, 2, 4, 2), None)
                self.refuses(Twice(2), call, days, [3, 2, 2], [1, 1])
                self.refuses(Twice(1), call, days, [3, 2], [7, 1, 1])

    def test_time(self):
        begun = perf_counter()
        for lot in ([13], [23], list(range(13, 24)), [5, 7, 11], []):
            for _ in range(20):
                apart(24, lot, [2, 3])
        self.assertLess(perf_counter() - begun, 2)
