"""Points 8 and 14: stretches of rounds and of rows that have a share of both amounts, or the rest."""

import random
from fractions import Fraction
from time import perf_counter

from anyseven.amounts import Amounts
from anyseven.errors import BadAmounts, BadFraction
from anyseven.level_lengths import level_lengths
from anyseven.level_stretches import Sign, level_stretch
from anyseven.levelled import levelled
from anyseven.made import made_row
from anyseven.missed_lots import missed_lots
from anyseven.papers import Denial
from anyseven.row_shares import NoShare, Rest, half, share_of_row, share_or_rest, share_spans
from anyseven.rows import Row
from anyseven.shares import Share, share_of_round
from tests.anew_levels import pair
from tests.anew_shares import has_row_share, right_or_rest, right_round, right_row, row_spans
from tests.support import Case
from tests.test_amounts import NO_AMOUNTS, some_pairs
from tests.test_moments import NO_FRACTIONS

THREE = Amounts([[1, 0], [1, 1], [1, 0]])
NO_SHARES = NO_FRACTIONS + ((0, 1), (1, 1), (-1, 2), (3, 2), (10 ** 70, 1), (10 ** 70 + 1, 10 ** 70))


def some_shares(chance, count=4):
    """Shares: simple ones, ones near 0 and near 1, and any."""
    shares = [Fraction(1, 2), Fraction(1, 3), Fraction(2, 3), Fraction(3, 4), Fraction(1, 10 ** 9), 1 - Fraction(1, 10 ** 9), Fraction(2, 5)]
    shares += [Fraction(chance.randint(1, by - 1), by) for by in (7, 12, 24, 10 ** 6)]
    return chance.sample(shares, count)


class OfRound(Case):

    def right(self, pairs, share):
        amounts = Amounts(pairs)
        paper = share_of_round(amounts, pair(share))
        self.is_same((type(paper), paper.word, paper.parts, bool(paper)), (Share, "share", (paper.first, paper.last), True))
        self.is_same(right_round(pairs, share, paper), True)
        self.is_same(share_of_round(share=list(pair(share)), amounts=Amounts(pairs)), paper)
        return paper

    def test_each_share_is_had(self):
        chance = random.Random(811)
        for pairs in some_pairs(812, 150):
            for share in some_shares(chance):
                self.right(pairs, share)

    def test_more_days(self):
        chance = random.Random(813)
        for pairs in some_pairs(814, 25, 24, 10 ** 6):
            for share in some_shares(chance, 2):
                self.right(pairs, share)

    def test_shares_over_the_end(self):
        over = 0
        for pairs in some_pairs(815, 60, 5):
            for share in (Fraction(2, 3), Fraction(5, 7)):
                if not has_row_share(pairs, share):
                    over += 1
                    paper = self.right(pairs, share)
                    self.assertTrue(Fraction(*paper.last) > len(pairs))
        self.assertGreater(over, 10)

    def test_turned_rounds(self):
        for pairs in some_pairs(816, 30, 6):
            for by in (1, 2, -1):
                turned = list(Amounts(pairs).turned(by).pairs)
                for share in (Fraction(1, 2), Fraction(5, 6)):
                    self.right(turned, share)

    def test_edges(self):
        for share in (Fraction(1, 10 ** 9), Fraction(1, 2), 1 - Fraction(1, 10 ** 9)):
            for pairs in ([(1, 1)], [(5, 7)], [(1, 0), (0, 1)], [(0, 0), (1, 1), (0, 0)], [(1, 0), (0, 0), (0, 1)], [(0, 1), (1, 0)], [(1, 1)] * 24):
                self.right(pairs, share)
            self.right([(1, 0)] * 12 + [(0, 1)] * 12, share)


class OfRow(Case):

    def right(self, pairs, share):
        """The papers of the share, and of it or the rest."""
        amounts, told = Amounts(pairs), pair(share)
        paper = share_of_row(amounts, told)
        self.is_same(right_row(pairs, share, paper), True)
        self.is_same(share_of_row(share=list(told), amounts=Amounts(pairs)), paper)
        if type(paper) is NoShare:
            self.is_same((paper.word, paper.parts, bool(paper), isinstance(paper, Denial)), ("noshare", (paper.sign,), False, True))
        either = share_or_rest(amounts, told)
        self.is_same(right_or_rest(pairs, share, either), True)
        self.is_same(type(either), Rest if type(paper) is NoShare else Share)
        self.is_same((either.word, either.parts, bool(either)), ("rest" if type(paper) is NoShare else "share", (either.first, either.last), True))
        self.is_same(share_or_rest(share=told, amounts=amounts) == either, True)
        return paper

    def test_the_share_or_the_rest(self):
        chance = random.Random(821)
        seen = [0, 0]
        for pairs in some_pairs(822, 200, 6):
            for share in some_shares(chance):
                seen[bool(self.right(pairs, share))] += 1
        self.assertGreater(min(seen), 30)

    def test_more_days(self):
        chance = random.Random(823)
        for pairs in some_pairs(824, 12, 24, 10 ** 6):
            self.right(pairs, some_shares(chance, 1)[0])

    def test_half(self):
        for pairs in some_pairs(825, 100):
            paper = half(Amounts(pairs))
            self.is_same(type(paper), Share)
            self.is_same(right_row(pairs, Fraction(1, 2), paper), True)
            self.is_same(half(amounts=Amounts(pairs)), paper)

    def test_parts_of_1(self):
        for pairs in some_pairs(826, 60, 6):
            for k in range(1, 8):
                if k > 1:
                    self.is_same(type(share_of_row(Amounts(pairs), (1, k))), Share)

    def test_exchanged_and_backwards(self):
        chance = random.Random(827)
        seen = set()
        for pairs in some_pairs(828, 120, 5):
            amounts = Amounts(pairs)
            for share in some_shares(chance, 2):
                paper = share_of_row(amounts, pair(share))
                back, exchanged = share_of_row(amounts.backwards(), pair(share)), share_of_row(amounts.exchanged(), pair(share))
                self.is_same(bool(back) == bool(exchanged) == bool(paper), True)
                if not paper:
                    self.is_same((back.sign, exchanged.sign), (paper.sign, -paper.sign))
                    seen.add(paper.sign)
            self.is_same(share_spans(amounts.backwards()), share_spans(amounts))
            self.is_same(share_spans(amounts.exchanged()), share_spans(amounts))
            if len(pairs) <= 8:
                self.is_same(share_spans(amounts.cut(3)), share_spans(amounts))
        self.is_same(seen, {1, -1})

    def test_two_that_no_stretch_has(self):
        count = 0
        for days in range(3, 10):
            for lot in missed_lots(days):
                gains = made_row(days, lot).gains
                amounts = Amounts([(1, gain - min(gains) + 1) for gain in gains])
                gone = [d for d in range(1, days) if not share_of_row(amounts, pair(Fraction(d, days)))]
                self.is_same(tuple(gone), lot)
                for one in lot:
                    paper = share_of_row(amounts, pair(Fraction(one, days)))
                    self.is_same(paper, NoShare(1))
                    for other in lot:
                        if one + other <= days:
                            count += 1
                            self.is_same(share_of_row(amounts, pair(Fraction(one + other, days))), NoShare(1))
        self.assertGreater(count, 10)

    def test_edges(self):
        self.is_same(half(Amounts([[1, 0], [0, 1]])).parts, ((1, 2), (3, 2)))
        for share in (Fraction(1, 10 ** 9), Fraction(1, 2), 1 - Fraction(1, 10 ** 9)):
            self.is_same(bool(self.right([(3, 5)], share)), True)
            self.is_same(bool(self.right([(0, 0), (2, 2), (0, 0), (1, 1)], share)), True)
            self.right([(1, 1)] * 24, share)
        self.is_same(self.right([(1, 0), (1, 1), (1, 0)], 1 - Fraction(1, 10 ** 9)), NoShare(1))
        self.is_same(self.right([(0, 1), (1, 1), (0, 1)], 1 - Fraction(1, 10 ** 9)), NoShare(-1))
        self.is_same(bool(self.right([(1, 0), (1, 1), (1, 0)], Fraction(1, 10 ** 9))), True)


class Spans(Case):

    def right(self, pairs):
        spans = share_spans(Amounts(pairs))
        self.is_same(spans, tuple((pair(least), pair(most)) for least, most in row_spans(pairs)))
        self.is_same(share_spans(amounts=Amounts(pairs)), spans)
        self.is_same((spans[0][0], spans[-1][1]), ((0, 1), (1, 1)))
        return spans

    def test_against_straight_pieces(self):
        chance = random.Random(831)
        for pairs in some_pairs(832, 200, 7):
            spans = self.right(pairs)
            for at in range(len(spans) - 1):
                last, first = Fraction(*spans[at][1]), Fraction(*spans[at + 1][0])
                self.assertTrue(last < first)
                near = (first - last) / 10 ** 6
                told = [last, first, last + near, first - near, (last + first) / 2]
                shown = [bool(share_of_row(Amounts(pairs), pair(share))) for share in told if 0 < share < 1]
                self.is_same(shown[-3:], [False] * 3)
                self.is_same(all(shown[:-3]), True)
            for share in some_shares(chance):
                inside = any(Fraction(*least) <= share <= Fraction(*most) for least, most in spans)
                self.is_same(bool(share_of_row(Amounts(pairs), pair(share))), inside)

    def test_level_lengths(self):
        # With 1 of the first thing each day, shares are parts of the days, told by the level stretches of a row.
        chance = random.Random(833)
        for _ in range(60):
            gains = [chance.choice((0, 0, 1, 2, 3, 7)) for _ in range(chance.randint(1, 12))]
            if sum(gains) == 0:
                continue
            days, amounts = len(gains), Amounts([(1, gain) for gain in gains])
            row = levelled(Row(gains))
            right = tuple(tuple(pair(Fraction(*end) / days) for end in span) for span in level_lengths(row))
            self.is_same(share_spans(amounts), right)
            for length in range(1, days):
                paper, level = share_of_row(amounts, pair(Fraction(length, days))), level_stretch(row, (length, 1))
                self.is_same(bool(paper), bool(level))
                if not paper:
                    self.is_same(level, Sign(paper.sign))

    def test_edges(self):
        self.is_same(share_spans(THREE), (((0, 1), (1, 2)), ((1, 1), (1, 1))))
        self.is_same(share_spans(Amounts([[7, 3]])), (((0, 1), (1, 1)),))
        self.is_same(self.right([(1, 1)] * 24), (((0, 1), (1, 1)),))
        self.is_same(self.right([(1, 0), (0, 1)]), (((0, 1), (1, 1)),))
        self.is_same(self.right([(0, 0), (1, 0), (0, 0), (1, 1), (0, 0)])[-1][1], (1, 1))
        for days in (2, 3, 12, 24):
            # All of the second thing is on one day, at the end or not.
            for at in {0, 1, days - 1}:
                self.right([(1, 1 if day == at else 0) for day in range(days)])


class Numbers(Case):

    def test_no_long_numbers(self):
        chance = random.Random(841)
        for pairs in some_pairs(842, 25, 24, 999999999):
            amounts = Amounts(pairs)
            for _ in range(4):
                by = chance.randint(500000000, 999999999)
                share = pair(Fraction(chance.randint(1, by - 1), by))
                for paper in (share_of_round(amounts, share), share_of_row(amounts, share), share_or_rest(amounts, share), half(amounts)):
                    for part in paper.parts:
                        for number in part if isinstance(part, tuple) else (part,):
                            self.assertTrue(abs(number) < 10 ** 60)


class Wrong(Case):

    def test_amounts(self):
        for value in NO_AMOUNTS:
            for call in (share_of_round, share_of_row, share_or_rest):
                self.refuses(BadAmounts("amounts"), call, value, (1, 2))
                self.refuses(BadAmounts("amounts"), call, value, None)
                self.refuses(BadAmounts("amounts"), call, share=(2, 1), amounts=value)
            self.refuses(BadAmounts("amounts"), half, value)
            self.refuses(BadAmounts("amounts"), share_spans, value)

    def test_shares(self):
        for value in NO_SHARES:
            for call in (share_of_round, share_of_row, share_or_rest):
                self.refuses(BadFraction("share"), call, THREE, value)
                self.refuses(BadFraction("share"), call, share=value, amounts=THREE)


class Time(Case):

    def test_time(self):
        chance = random.Random(851)
        begun = perf_counter()
        for _ in range(3):
            amounts = Amounts([(chance.randint(0, 999999), chance.randint(0, 999999)) for _ in range(24)])
            for _ in range(5):
                share = pair(Fraction(chance.randint(1, 999998), 999999))
                share_of_round(amounts, share), share_of_row(amounts, share), share_or_rest(amounts, share)
            share_spans(amounts), half(amounts)
        self.assertLess(perf_counter() - begun, 3)
