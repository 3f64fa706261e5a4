"""Points 2, 3 and 14: which papers of shares of both amounts are right."""

import random
from fractions import Fraction
from time import perf_counter

from anyseven.amounts import Amounts
from anyseven.check_shares import shows_or_rest, shows_round, shows_row
from anyseven.errors import BadAmounts, BadFraction
from anyseven.kept import Kept, Ring
from anyseven.row_shares import NoShare, Rest, half, share_of_row, share_or_rest
from anyseven.rows import Row
from anyseven.shares import Share, share_of_round
from tests import bends
from tests.anew_levels import pair
from tests.anew_shares import right_or_rest, right_round, right_row
from tests.bends import bent_papers
from tests.support import Case, few
from tests.test_amounts import NO_AMOUNTS, some_pairs
from tests.test_shares import NO_SHARES, some_shares

PAIRS = [(1, 0), (1, 1), (1, 0)]
THREE = Amounts(PAIRS)
CALLS = ((share_of_round, shows_round, right_round), (share_of_row, shows_row, right_row), (share_or_rest, shows_or_rest, right_or_rest))
OTHER_PAPERS = (
    Share(None, None), Rest(None, None), NoShare(None), NoShare(0), NoShare(1), NoShare(-1), NoShare(2), NoShare(True), NoShare(1.0),
    Share((0, 1), (1, 1)), Rest((0, 1), (1, 1)), Share((0, 1), (0, 1)), Share((1, 1), (0, 1)), Kept(Row([1])), Ring([]), Share(0, 1))


class Shows(Case):

    def shows(self, pairs, share, call, right, value):
        shown = call(Amounts(pairs), pair(share), value)
        self.is_same(shown, right(pairs, share, value))
        self.is_same(call(value=value, share=list(pair(share)), amounts=Amounts(pairs)), shown)
        return shown

    def test_what_is_returned_is_right(self):
        chance = random.Random(861)
        for pairs in some_pairs(862, 120, 6):
            for share in some_shares(chance, 2):
                for told, call, right in CALLS:
                    self.is_same(self.shows(pairs, share, call, right, told(Amounts(pairs), pair(share))), True)

    def test_bent_papers(self):
        chance = random.Random(863)
        count = [0, 0]
        for pairs in list(some_pairs(864, 40, 5)) + [PAIRS, [(1, 1)]]:
            for share in some_shares(chance, 2):
                for told, call, right in CALLS:
                    for other in few(bent_papers(told(Amounts(pairs), pair(share))), chance, 150):
                        count[self.shows(pairs, share, call, right, other)] += 1
        self.assertTrue(count[0] > 5000 and count[1] > 20, count)

    def test_bent_moments(self):
        chance = random.Random(865)
        count = [0, 0]
        for pairs in list(some_pairs(866, 20, 4)) + [PAIRS, [(1, 1)]]:
            for share in some_shares(chance, 2):
                for told, call, right in CALLS:
                    paper = told(Amounts(pairs), pair(share))
                    if type(paper) is not NoShare:
                        for other in few(bends.bent(paper, bends.bent_fraction, bends.bent_fraction), chance, 60):
                            count[self.shows(pairs, share, call, right, other)] += 1
        self.assertTrue(count[0] > 2000 and count[1] > 20, count)

    def test_any_stretch_with_the_share(self):
        # Moved on or back by a little: in days that are alike each begin will do.
        for first, last, shown in (
                ((0, 1), (1, 1), True), ((1, 2), (3, 2), True), ((1, 1), (2, 1), True), ((1, 3), (4, 3), True), ((1, 3), (4, 4), False),
                ((-1, 2), (1, 2), False), ((0, 1), (2, 1), False), ((1, 1), (0, 1), False), ((3, 2), (5, 2), False)):
            self.is_same(self.shows([(1, 1), (1, 1)], Fraction(1, 2), shows_row, right_row, Share(first, last)), shown)
        for first, last, shown in (
                ((3, 2), (5, 2), True), ((7, 4), (11, 4), True), ((5, 2), (7, 2), False), ((-1, 2), (1, 2), False), ((7, 2), (9, 2), False),
                ((2, 1), (3, 1), False), ((0, 1), (1, 1), True), ((1, 1), (4, 1), False)):
            self.is_same(self.shows([(1, 1), (1, 1)], Fraction(1, 2), shows_round, right_round, Share(first, last)), shown)

    def test_stretches_of_the_round_and_of_the_row(self):
        two_thirds = Fraction(2, 3)
        self.is_same(self.shows(PAIRS, two_thirds, shows_round, right_round, Share((4, 3), (10, 3))), True)
        self.is_same(self.shows(PAIRS, two_thirds, shows_row, right_row, Share((4, 3), (10, 3))), False)
        self.is_same(self.shows(PAIRS, two_thirds, shows_or_rest, right_or_rest, Share((4, 3), (10, 3))), False)
        self.is_same(self.shows(PAIRS, two_thirds, shows_or_rest, right_or_rest, Rest((1, 3), (4, 3))), True)
        self.is_same(self.shows(PAIRS, two_thirds, shows_or_rest, right_or_rest, Rest((4, 3), (10, 3))), False)
        self.is_same(self.shows(PAIRS, two_thirds, shows_row, right_row, Rest((1, 3), (4, 3))), False)
        self.is_same(self.shows([(1, 1), (1, 1)], Fraction(1, 2), shows_or_rest, right_or_rest, Rest((3, 2), (5, 2))), False)
        self.is_same(self.shows([(1, 1), (1, 1)], Fraction(1, 2), shows_or_rest, right_or_rest, Rest((1, 2), (3, 2))), True)
        # A rest is right by itself, though the share is had, too.
        self.is_same(self.shows([(1, 1)], two_thirds, shows_or_rest, right_or_rest, Rest((0, 1), (1, 3))), True)
        self.is_same(self.shows([(1, 1)], two_thirds, shows_or_rest, right_or_rest, Share((0, 1), (2, 3))), True)
        self.is_same(self.shows([(1, 1)], two_thirds, shows_or_rest, right_or_rest, Share((0, 1), (1, 3))), False)

    def test_signs(self):
        for sign in (1, -1, 0, 2, True, False, None, 1.0, -1.0, "1", (1,), 10 ** 70):
            self.is_same(self.shows(PAIRS, Fraction(2, 3), shows_row, right_row, NoShare(sign)), type(sign) is int and sign == 1)
            self.is_same(self.shows([(0, 1), (1, 1), (0, 1)], Fraction(2, 3), shows_row, right_row, NoShare(sign)), type(sign) is int and sign == -1)
            self.is_same(self.shows(PAIRS, Fraction(1, 2), shows_row, right_row, NoShare(sign)), False)
            self.is_same(self.shows(PAIRS, Fraction(2, 3), shows_or_rest, right_or_rest, NoShare(sign)), False)
            self.is_same(self.shows(PAIRS, Fraction(2, 3), shows_round, right_round, NoShare(sign)), False)

    def test_papers_of_other_shares(self):
        count = [0, 0]
        shares = [Fraction(number, 6) for number in range(1, 6)]
        for pairs in some_pairs(867, 25, 4):
            papers = [told(Amounts(pairs), pair(share)) for told, _, _ in CALLS for share in shares]
            for share in shares:
                for _, call, right in CALLS:
                    for paper in papers:
                        count[self.shows(pairs, share, call, right, paper)] += 1
        self.assertGreater(min(count), 300)

    def test_other_papers(self):
        for pairs, share in ((PAIRS, Fraction(2, 3)), ([(1, 1)], Fraction(1, 2)), ([(1, 0), (0, 1)], Fraction(1, 3))):
            for told, call, right in CALLS:
                for value in OTHER_PAPERS + bends.alike(told(Amounts(pairs), pair(share))):
                    self.shows(pairs, share, call, right, value)

    def test_half(self):
        for pairs in some_pairs(868, 40):
            for _, call, right in CALLS:
                self.is_same(self.shows(pairs, Fraction(1, 2), call, right, half(Amounts(pairs))), True)


class Wrong(Case):

    def test_arguments(self):
        for _, call, _ in CALLS:
            for value in NO_AMOUNTS:
                self.refuses(BadAmounts("amounts"), call, value, (1, 2), Share((0, 1), (1, 2)))
                self.refuses(BadAmounts("amounts"), call, value, None, None)
            for value in NO_SHARES:
                self.refuses(BadFraction("share"), call, THREE, value, NoShare(1))
                self.refuses(BadFraction("share"), call, value=None, share=value, amounts=THREE)


class Time(Case):

    def test_time(self):
        chance = random.Random(869)
        amounts = Amounts([(chance.randint(0, 999999), chance.randint(0, 999999)) for _ in range(24)])
        begun = perf_counter()
        for number in range(1, 8):
            for told, call, _ in CALLS:
                self.is_same(call(amounts, (999999 - number, 10 ** 6 + 3), told(amounts, (999999 - number, 10 ** 6 + 3))), True)
        self.assertLess(perf_counter() - begun, 3)
