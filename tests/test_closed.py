"""Point 8: closed lots, what lengths make, all closed lots and the greatest ones."""

import random
from itertools import combinations
from time import perf_counter

from anyseven.closed import Closed, Closure, Makes, NotClosed, closed, closure
from anyseven.errors import BadLot, BadNumber, TooMany, Twice
from anyseven.missed_lots import greatest_lots, many_missed_lots, missed_lots
from anyseven.papers import Denial
from tests.anew import all_closed, is_closed, made_by
from tests.support import NO_INTEGERS, NO_LISTS, NO_LISTS_OF_INTEGERS, Case

MANY = [1, 1, 2, 2, 5, 4, 11, 10, 21, 22, 51, 40, 106, 103, 200, 205]
NO_DAYS = NO_INTEGERS + (0, -1, 49, 10 ** 70)
NO_LOTS = NO_LISTS + NO_LISTS_OF_INTEGERS + ([0], (0, 1), [-1], [1, -2], [0, 0], [10 ** 70])


def all_lots(days):
    return [lot for many in range(days) for lot in combinations(range(1, days), many)]


def some_lots(seed, count):
    """Days and lengths below them, in any order."""
    chance = random.Random(seed)
    for _ in range(count):
        days = chance.randint(1, 48)
        yield days, chance.sample(range(1, days), chance.randint(0, min(days - 1, chance.choice((2, 4, 47)))))


class ClosedLots(Case):

    def right(self, days, lengths):
        paper, lot = closed(days, lengths), sorted(lengths)
        pairs = [
            (one, other) for one in lot for other in lot
            if one <= other and (one + other == days or (one + other < days and one + other not in lot))]
        if pairs:
            self.is_same((type(paper), paper.word, paper.parts, bool(paper)), (NotClosed, "notclosed", min(pairs), False))
            self.is_same((paper.one, paper.other), min(pairs))
            self.assertTrue(isinstance(paper, Denial))
        else:
            self.is_same((type(paper), paper.word, paper.parts, bool(paper)), (Closed, "closed", (), True))
        return bool(paper)

    def test_all_lots_of_few_days(self):
        for days in range(1, 10):
            count = sum(self.right(days, list(lot)) for lot in all_lots(days))
            self.assertEqual(count, MANY[days - 1])

    def test_lots_of_more_days(self):
        seen = [0, 0]
        for days, lengths in some_lots(101, 400):
            seen[self.right(days, lengths)] += 1
            self.is_same(closed(days, tuple(lengths)) == closed(days, sorted(lengths)), True)
            self.is_same(closed(lengths=lengths, days=days) == closed(days, lengths[::-1]), True)
        self.assertGreater(min(seen), 40)

    def test_some_lots(self):
        for days, lengths, pair in (
                (1, [], None), (2, [1], (1, 1)), (48, [], None), (48, [47], None), (48, [24], (24, 24)), (48, [47, 1], (1, 1)),
                (48, list(range(25, 48)), None), (5, (4, 3), None), (7, [4, 3], (3, 3)), (7, [2, 4], (2, 4)), (8, [5, 3], (3, 3)),
                (9, [3, 6], (3, 6)), (9, [8, 4], None), (10, [9, 3, 6], None), (10, [3, 6], (3, 6)), (10, [7, 9, 3, 6], (3, 7))):
            paper = closed(days, lengths)
            self.is_same(paper.parts, () if pair is None else pair)
            self.is_same(self.right(days, list(lengths)), pair is None)

    def test_two_that_divide_one_another_and_equal_ones(self):
        self.is_same(closed(12, [4, 8]).parts, (4, 8))
        self.is_same(closed(12, [5, 10]).parts, ())
        self.is_same(closed(12, [6]).parts, (6, 6))
        self.is_same(closed(13, [6]).parts, (6, 6))
        self.is_same(closed(13, [6, 12]).parts, ())
        self.is_same(closed(11, [6]).parts, ())


class Made(Case):

    def right(self, days, lengths):
        paper, made = closure(days, lengths), made_by(days, lengths)
        self.is_same(closure(days, sorted(lengths)) == paper, True)
        self.is_same(closure(lengths=tuple(lengths[::-1]), days=days) == paper, True)
        if days not in made:
            self.is_same((type(paper), paper.word, paper.parts, bool(paper)), (Closure, "closure", (tuple(made),), True))
            self.is_same(paper.lengths, tuple(made))
            return True
        self.is_same((type(paper), paper.word, paper.parts, bool(paper)), (Makes, "makes", (paper.counts,), False))
        self.assertTrue(isinstance(paper, Denial))
        self.assertIs(type(paper.counts), tuple)
        self.is_same([length for length, _ in paper.counts], sorted({length for length, _ in paper.counts}))
        for length, many in paper.counts:
            self.assertIn(length, lengths)
            self.assertTrue(type(many) is int and many >= 1)
        self.assertEqual(sum(length * many for length, many in paper.counts), days)
        return False

    def test_all_lots_of_few_days(self):
        for days in range(1, 11):
            for lot in all_lots(days):
                if self.right(days, list(lot)):
                    found = closure(days, lot).lengths
                    self.assertTrue(is_closed(days, found) and set(lot) <= set(found))
                    # It is the least closed lot that has all of them.
                    for other in all_closed(days):
                        if set(lot) <= set(other):
                            self.assertTrue(set(found) <= set(other))
                    self.is_same(closure(days, found).lengths, found)
                else:
                    self.assertFalse([other for other in all_closed(days) if set(lot) <= set(other)])

    def test_lots_of_more_days(self):
        seen = [0, 0]
        for days, lengths in some_lots(102, 400):
            seen[self.right(days, lengths)] += 1
        self.assertGreater(min(seen), 60)

    def test_closed_lots_stay(self):
        for days in range(1, 17):
            for lot in missed_lots(days):
                self.is_same(closure(days, lot), Closure(lot))

    def test_some(self):
        self.is_same(closure(1, []), Closure(()))
        self.is_same(closure(48, ()), Closure([]))
        self.is_same(closure(48, [1]), Makes([(1, 48)]))
        self.is_same(closure(48, [47]), Closure((47,)))
        self.is_same(closure(48, [24]), Makes(((24, 2),)))
        self.is_same(closure(2, [1]), Makes([(1, 2)]))
        self.is_same(closure(47, [46, 1]).counts in (((1, 1), (46, 1)), ((1, 47),)), True)
        self.is_same(closure(48, [7, 9]), Makes([(7, 3), (9, 3)]))
        self.is_same(closure(48, [11, 7]).lengths, (
            7, 11, 14, 18, 21, 22, 25, 28, 29, 32, 33, 35, 36, 39, 40, 42, 43, 44, 46, 47))


class Wrong(Case):

    def test_days(self):
        for call in (closed, closure):
            for value in NO_DAYS:
                self.refuses(BadNumber("days"), call, value, [1])
                self.refuses(BadNumber("days"), call, value, None)
                self.refuses(BadNumber("days"), call, lengths=[3, 3], days=value)

    def test_lengths(self):
        for call in (closed, closure):
            for value in NO_LOTS:
                self.refuses(BadLot("lengths"), call, 5, value)
                self.refuses(BadLot("lengths"), call, lengths=value, days=48)
            for days, value in ((1, [1]), (2, [2]), (5, [5]), (5, (1, 6)), (48, [48]), (48, [49]), (5, [3, 3, 5]), (1, [1, 1]),
                                (5, [3, 3, None]), (5, [3, 3, True])):
                self.refuses(BadLot("lengths"), call, days, value)
            for days, value, twice in ((3, [1, 1], 1), (5, (4, 2, 2, 4), 2), (48, [47, 3, 4, 47, 3], 47), (9, [2] * 9, 2)):
                self.refuses(Twice(twice), call, days, value)

    def test_what_is_passed_stays(self):
        lengths = [5, 3, 4]
        closed(9, lengths), closure(9, lengths), closure(11, lengths)
        self.assertEqual(lengths, [5, 3, 4])


class AllLots(Case):

    def test_how_many(self):
        self.is_same([many_missed_lots(days) for days in range(1, 17)], MANY)
        self.is_same([len(missed_lots(days)) for days in range(1, 17)], MANY)

    def test_against_looking_at_all(self):
        for days in range(1, 13):
            self.is_same(missed_lots(days), all_closed(days))
            self.is_same(missed_lots(days=days), all_closed(days))

    def test_what_each_of_them_is(self):
        for days in range(1, 17):
            lots = missed_lots(days)
            self.is_same(lots, tuple(sorted(sorted(lots), key=len)))
            self.assertEqual(len(lots), len(set(lots)))
            for lot in lots:
                self.is_same(lot, tuple(sorted(set(lot))))
                self.assertTrue(is_closed(days, lot) and all(0 < length < days for length in lot))

    def test_greatest_lots(self):
        for days in range(1, 17):
            lots = missed_lots(days)
            right = tuple(lot for lot in lots if not any(set(lot) < set(other) for other in lots))
            self.is_same(greatest_lots(days), right)
            self.is_same(greatest_lots(days=days), right)
            for lot in right:
                for length in range(1, days):
                    if 2 * length != days:
                        self.assertEqual((length in lot) + (days - length in lot), 1)

    def test_the_first_days(self):
        self.is_same([missed_lots(days) for days in (1, 2, 3, 4)], [((),), ((),), ((), (2,)), ((), (3,))])
        self.is_same([greatest_lots(days) for days in (1, 2, 3, 4, 5)], [((),), ((),), ((2,),), ((3,),), ((2, 4), (3, 4))])

    def test_days(self):
        for call in (missed_lots, many_missed_lots, greatest_lots):
            for value in NO_DAYS:
                self.refuses(BadNumber("days"), call, value)
            for days in (17, 18, 48):
                self.refuses(TooMany("days", 16), call, days)
                self.refuses(TooMany("days", 16), call, days=days)

    def test_time(self):
        begun = perf_counter()
        for call in (missed_lots, many_missed_lots, greatest_lots):
            for days in range(1, 17):
                call(days)
        self.assertLess(perf_counter() - begun, 2)
