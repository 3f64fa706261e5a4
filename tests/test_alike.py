"""Point 10: two lengths whose sums are all equal, and their common divisor."""

from math import gcd
from time import perf_counter

from anyseven.alike import Alike, Unlike, alike
from anyseven.check_bounds import shows_alike
from anyseven.errors import BadNumber
from anyseven.papers import Denial
from tests.anew_bounds import are_equal, right_alike
from tests.support import NO_INTEGERS, Case

NO_NUMBERS = NO_INTEGERS + (0, -1, 49, 10 ** 70)


def are_alike(days, one, other):
    """What Fine and Wilf tell."""
    divisor = gcd(one, other)
    return divisor in (one, other) or days <= divisor or days >= one + other - divisor


class Leads(Case):

    def right(self, days, one, other):
        paper = alike(days, one, other)
        self.assertTrue(right_alike(days, one, other, paper), (days, one, other, paper.parts))
        self.is_same(shows_alike(days, one, other, paper), True)
        self.is_same(alike(other=other, one=one, days=days) == paper, True)
        if type(paper) is Alike:
            self.is_same((paper.word, paper.parts, bool(paper)), ("alike", (paper.leads,), True))
        else:
            self.is_same((type(paper), paper.word, paper.parts, bool(paper)), (Unlike, "unlike", (paper.row,), False))
            self.assertTrue(isinstance(paper, Denial))
        return bool(paper)

    def test_all_of_few_days(self):
        for days in range(1, 15):
            for one in range(1, 17):
                for other in range(1, 17):
                    self.is_same(self.right(days, one, other), are_alike(days, one, other))

    def test_more_days(self):
        for days in range(15, 49, 3):
            for one, other in ((20, 28), (28, 20), (24, 25), (16, 40), (48, 47), (12, 36), (48, 48), (30, 18), (31, 17), (1, 48)):
                self.is_same(self.right(days, one, other), are_alike(days, one, other))

    def test_just_enough_days(self):
        for one, other in ((4, 6), (5, 7), (9, 15), (24, 23), (20, 24), (2, 3)):
            divisor = gcd(one, other)
            enough = one + other - divisor
            self.is_same([self.right(days, one, other) for days in (enough - 1, enough)], [False, True])
            self.is_same([self.right(days, one, other) for days in (divisor, divisor + 1)], [True, False])

    def test_edges(self):
        self.is_same(alike(1, 1, 1), Alike(()))
        self.is_same(alike(2, 1, 1), Alike([[0, 1]]))
        self.is_same(alike(48, 48, 48), Alike([]))
        self.is_same(len(alike(48, 47, 2).leads), 47)
        self.is_same(alike(3, 5, 10).leads, ())
        self.is_same(bool(alike(6, 5, 7)), False)
        row = alike(7, 4, 6).row
        self.is_same([are_equal(row.gains, length) for length in (4, 6, 2)], [True, True, False])

    def test_wrong_arguments(self):
        for call in (alike, lambda days, one, other: shows_alike(days, one, other, Alike(()))):
            for value in NO_NUMBERS:
                self.refuses(BadNumber("days"), call, value, 1, 1)
                self.refuses(BadNumber("days"), call, value, value, value)
                self.refuses(BadNumber("one"), call, 1, value, 1)
                self.refuses(BadNumber("one"), call, 48, value, None)
                self.refuses(BadNumber("other"), call, 48, 48, value)

    def test_time(self):
        begun = perf_counter()
        for one in range(1, 49, 5):
            for other in range(2, 49, 5):
                shows_alike(48, one, other, alike(48, one, other))
        self.assertLess(perf_counter() - begun, 3)
