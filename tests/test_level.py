"""Point 9: begins with a told sum, level stretches, stretches at the average, and level lengths."""

import random
from fractions import Fraction
from time import perf_counter

from anyseven.check_level import shows_average, shows_level
from anyseven.errors import BadFraction, BadRow, Misfit, TooMany
from anyseven.level_lengths import level_lengths, other_lengths
from anyseven.level_stretches import Sign, Stretch, average_stretch, level_stretch, sum_begins
from anyseven.levelled import levelled
from anyseven.made import made_row
from anyseven.missed import missed
from anyseven.missed_lots import missed_lots
from anyseven.moments import cut_finer
from anyseven.papers import Denial
from anyseven.rows import Row
from anyseven.sorts import sort_of, sums
from tests.anew_levels import height, pair, right_stretch, sign_of, sum_at, turns
from tests.support import Case
from tests.test_moments import HUGE, NO_FRACTIONS
from tests.test_rows import NO_ROWS

THREE = Row([-1, 2, -1])
SEVEN = Row([-1, 3, -1, -3, 0, 3, -1])
NO_LENGTHS = NO_FRACTIONS + ((0, 1), (-1, 1), (-1, 7), (4, 1), (10, 3), (HUGE, 1))


def some_rows(seed, count, most_days=7, most=4):
    chance = random.Random(seed)
    for _ in range(count):
        yield Row([chance.randint(-most, most) for _ in range(chance.randint(1, most_days))])


def lengths_of(chance, days, count=6):
    """Lengths up to the days, whole ones too."""
    yield from [Fraction(days), Fraction(1)]
    for _ in range(count):
        by = chance.choice((1, 2, 3, 5, 12, 1000))
        yield Fraction(chance.randint(1, days * by), by)


class Begins(Case):

    def right(self, row, length, amount):
        """The spans, looked at: the sum is as told in them, and between them it is above or below."""
        spans = sum_begins(row, pair(length), pair(amount))
        self.is_same(sum_begins(amount=list(pair(amount)), length=list(pair(length)), row=row), spans)
        told = [(Fraction(*first), Fraction(*last)) for first, last in spans]
        self.is_same(spans, tuple((pair(first), pair(last)) for first, last in told))
        gains = row.gains
        for first, last in told:
            self.assertTrue(0 <= first <= last <= len(gains) - length)
        for (_, before), (behind, _) in zip(told, told[1:]):
            self.assertLess(before, behind)
        events = sorted(set(turns(gains, length)) | {end for span in told for end in span})
        for at, begin in enumerate(events):
            inside = any(first <= begin <= last for first, last in told)
            self.is_same(sum_at(gains, begin, length) == amount, inside)
            if at + 1 < len(events):
                half = (begin + events[at + 1]) / 2
                inside = any(first <= half <= last for first, last in told)
                self.is_same(sum_at(gains, half, length) == amount, inside)
                excesses = [sum_at(gains, some, length) - amount for some in (begin, events[at + 1])]
                # Between two turns the sum goes evenly, so what is passed over would be seen here.
                self.assertFalse(min(excesses) < 0 < max(excesses), (gains, length, amount))
        return told

    def test_some_rows(self):
        chance = random.Random(141)
        count = [0, 0, 0]
        for row in some_rows(142, 150):
            for length in lengths_of(chance, row.days, 4):
                brought = [sum_at(row.gains, begin, length) for begin in turns(row.gains, length)]
                for amount in (Fraction(0), chance.choice(brought), Fraction(chance.randint(-20, 20), chance.randint(1, 6))):
                    told = self.right(row, length, amount)
                    count[min(len(told), 2)] += 1
        self.assertGreater(min(count), 100)

    def test_amounts_between_are_all_had(self):
        chance = random.Random(143)
        for row in some_rows(144, 60, 5):
            for length in lengths_of(chance, row.days, 3):
                brought = [sum_at(row.gains, begin, length) for begin in turns(row.gains, length)]
                least, greatest = min(brought), max(brought)
                for amount, had in (
                        (least, True), (greatest, True), ((least + greatest) / 2, True), ((least + 2 * greatest) / 3, True),
                        (least - Fraction(1, 1000), False), (greatest + Fraction(1, 1000), False), (greatest + 1, False)):
                    self.is_same(self.right(row, length, amount) != [], had)

    def test_flat_rows(self):
        for days in (1, 2, 7, 48):
            row = Row([3] * days)
            for length in (Fraction(1), Fraction(1, 2), Fraction(days), Fraction(2 * days - 1, 2), Fraction(1, 10 ** 9)):
                if length <= days:
                    self.is_same(sum_begins(row, pair(length), pair(3 * length)), (((0, 1), pair(days - length)),))
                    self.is_same(sum_begins(row, pair(length), pair(3 * length + 1)), ())

    def test_spans_that_meet(self):
        row = Row([1, 1, 2, 0, 1, 1])
        self.is_same(sum_begins(row, (1, 1), (1, 1)), (((0, 1), (1, 1)), ((5, 2), (5, 2)), ((4, 1), (5, 1))))
        self.is_same(sum_begins(Row([0, 1, 0, 0, 0]), (1, 1), (0, 1)), (((0, 1), (0, 1)), ((2, 1), (4, 1))))
        self.is_same(sum_begins(Row([2, 0, 0, -1]), (1, 2), (0, 1)), (((1, 1), (5, 2)),))
        self.right(row, Fraction(1), Fraction(1))

    def test_the_length_of_all_days(self):
        for row in some_rows(145, 40):
            for amount in (row.total, row.total + 1, -HUGE):
                spans = sum_begins(row, (row.days, 1), (amount, 1))
                self.is_same(spans, (((0, 1), (0, 1)),) if amount == row.total else ())

    def test_wrong_arguments(self):
        for value in NO_LENGTHS:
            self.refuses(BadFraction("length"), sum_begins, THREE, value, (0, 1))
            self.refuses(BadFraction("length"), sum_begins, THREE, value, None)
            self.refuses(BadFraction("length"), sum_begins, amount=(2, 4), length=value, row=THREE)
        for value in NO_FRACTIONS:
            self.refuses(BadFraction("amount"), sum_begins, THREE, (1, 1), value)
            self.refuses(BadFraction("amount"), sum_begins, Row([1] * 48), (48, 1), value)
        for value in NO_ROWS:
            self.refuses(BadRow("row"), sum_begins, value, (1, 1), (0, 1))
            self.refuses(BadRow("row"), sum_begins, value, None, None)
        self.is_same(sum_begins(THREE, (1, 1), (-HUGE, 7)), ())


class Stretches(Case):

    def right(self, row, length, call, shows, amount):
        paper = call(row, pair(length))
        self.assertTrue(right_stretch(row, length, amount, paper), (row.gains, length, paper.parts))
        self.is_same(shows(row, pair(length), paper), True)
        self.is_same(call(length=list(pair(length)), row=row) == paper, True)
        if type(paper) is Sign:
            self.is_same((paper.word, paper.parts, bool(paper)), ("sign", (paper.sign,), False))
            self.assertTrue(isinstance(paper, Denial))
            return paper.sign
        self.assertIs(type(paper), Stretch)
        self.is_same((paper.word, paper.parts, bool(paper)), ("stretch", (paper.begin,), True))
        self.is_same(paper.begin, sum_begins(row, pair(length), pair(amount))[0][0])
        return 0

    def test_level_stretches(self):
        chance = random.Random(146)
        seen = {0: 0, 1: 0, -1: 0}
        for row in some_rows(147, 200):
            for length in lengths_of(chance, row.days):
                seen[self.right(row, length, level_stretch, shows_level, Fraction(0))] += 1
        self.assertGreater(min(seen.values()), 100)

    def test_average_stretches(self):
        chance = random.Random(148)
        seen = {0: 0, 1: 0, -1: 0}
        for row in some_rows(149, 200):
            for length in lengths_of(chance, row.days):
                amount = length * Fraction(row.total, row.days)
                seen[self.right(row, length, average_stretch, shows_average, amount)] += 1
        self.assertGreater(min(seen.values()), 20)

    def test_parts_of_the_days_have_their_average(self):
        for row in some_rows(150, 60, 12):
            for k in (1, 2, 3, 5, 7, 100):
                paper = average_stretch(row, pair(Fraction(row.days, k)))
                self.is_same(type(paper), Stretch)

    def test_level_rows_have_one_average(self):
        chance = random.Random(151)
        for row in some_rows(152, 60):
            level = levelled(row)
            for length in lengths_of(chance, row.days):
                self.is_same(average_stretch(level, pair(length)), level_stretch(level, pair(length)))
                self.is_same(average_stretch(row, pair(length)), level_stretch(level, pair(length)))

    def test_whole_lengths(self):
        for row in some_rows(153, 100):
            for length in range(1, row.days + 1):
                word, paper = sort_of(row, length), level_stretch(row, (length, 1))
                self.is_same(bool(paper), word not in ("gains", "loses"))
                if not paper:
                    self.is_same(paper.sign, 1 if word == "gains" else -1)

    def test_edges(self):
        self.is_same(level_stretch(Row([0]), (1, 1)).begin, (0, 1))
        self.is_same(level_stretch(Row([5]), (1, 10 ** 9)).sign, 1)
        self.is_same(level_stretch(Row([-5]), (1, 1)).sign, -1)
        self.is_same(average_stretch(Row([-5]), (1, 3)).begin, (0, 1))
        self.is_same(level_stretch(Row([1, -1]), (2, 1)).begin, (0, 1))
        self.is_same(level_stretch(Row([1, -2]), (2, 1)).sign, -1)
        self.is_same(level_stretch(Row([HUGE, -1]), (1, 1)).begin, pair(Fraction(HUGE, HUGE + 1)))
        self.is_same(level_stretch(Row([1] * 47 + [-1]), (2, 1)).begin, (46, 1))

    def test_wrong_arguments(self):
        for call in (level_stretch, average_stretch):
            for value in NO_LENGTHS:
                self.refuses(BadFraction("length"), call, THREE, value)
                self.refuses(BadFraction("length"), call, length=value, row=THREE)
            for value in NO_ROWS:
                self.refuses(BadRow("row"), call, value, (1, 1))
                self.refuses(BadRow("row"), call, value, (2, 4))


def level_rows(seed, count, most_days=7, most=3):
    for row in some_rows(seed, count, most_days, most):
        gains = row.gains[:-1] + (row.gains[-1] - row.total,)
        yield Row(gains)


def moments_at_places(gains):
    """All moments at which the row is as high as at some place, or a day begins: ends of what days share."""
    heights = [sum(gains[:place]) for place in range(len(gains) + 1)]
    found = {Fraction(place) for place in range(len(gains) + 1)}
    for day, gain in enumerate(gains):
        for high in heights:
            if gain != 0 and 0 <= Fraction(high - heights[day], gain) <= 1:
                found.add(day + Fraction(high - heights[day], gain))
    return found


class Lengths(Case):

    def right(self, row):
        """The spans, and the open spans between, looked at."""
        spans, others = level_lengths(row), other_lengths(row)
        self.is_same(level_lengths(row=row), spans)
        self.is_same(other_lengths(row=row), others)
        told = [(Fraction(*first), Fraction(*last)) for first, last in spans]
        self.is_same(spans, tuple((pair(first), pair(last)) for first, last in told))
        self.is_same((told[0][0], told[-1][1]), (Fraction(0), Fraction(row.days)))
        self.assertGreater(told[0][1], 0)
        self.is_same([(first, last) for first, last, _ in others], [(one[1], other[0]) for one, other in zip(spans, spans[1:])])
        self.assertTrue(all(Fraction(*first) < Fraction(*last) for first, last, _ in others))
        moments = moments_at_places(row.gains)
        events = sorted({abs(one - other) for one in moments for other in moments} | {end for span in told for end in span})
        halves = [(one + other) / 2 for one, other in zip(events, events[1:])]
        for length in events[1:] + halves:
            inside = any(first <= length <= last for first, last in told)
            sign = 0 if inside else next(
                sign for first, last, sign in others if Fraction(*first) < length < Fraction(*last))
            self.is_same(sign_of(row.gains, length, 0), sign)
        return spans

    def test_some_rows(self):
        for row in [THREE, Row([0]), Row([1, -1]), Row([0, 0, 0]), Row([1, -2, 2, 1, -2])]:
            self.right(row)
        for row in level_rows(161, 50, 5):
            self.right(row)

    def test_one_sign_alone(self):
        spans = self.right(SEVEN)
        self.is_same(spans, (((0, 1), (11, 3)), ((13, 3), (17, 3)), ((7, 1), (7, 1))))
        self.is_same(other_lengths(SEVEN), (((11, 3), (13, 3), -1), ((17, 3), (7, 1), 1)))

    def test_whole_lengths_are_missed_if_not_level(self):
        for row in list(level_rows(162, 200, 9)) + [SEVEN, made_row(12, [5, 10]), made_row(24, [23])]:
            spans, signs = level_lengths(row), dict(missed(row).signs)
            for length in range(1, row.days + 1):
                inside = any(Fraction(*first) <= length <= Fraction(*last) for first, last in spans)
                self.is_same(inside, length not in signs)
                if not inside:
                    self.is_same(next(
                        sign for first, last, sign in other_lengths(row)
                        if Fraction(*first) < length < Fraction(*last)), signs[length])

    def test_made_rows(self):
        for days in range(1, 13):
            for lot in missed_lots(days):
                others = other_lengths(made_row(days, lot))
                self.assertTrue(all(sign == 1 for _, _, sign in others))
                whole = tuple(length for length in range(1, days) if any(
                    Fraction(*first) < length < Fraction(*last) for first, last, _ in others))
                self.is_same(whole, lot)

    def test_lengths_that_divide_the_days(self):
        for row in level_rows(163, 60, 8):
            spans = level_lengths(row)
            for k in range(1, 9):
                self.assertTrue(any(Fraction(*first) <= Fraction(row.days, k) <= Fraction(*last) for first, last in spans))

    def test_two_that_are_not_level(self):
        count = 0
        rows = [made_row(days, lot).times(sign) for days, sign in ((9, 3), (11, -1)) for lot in missed_lots(days)]
        for row in list(level_rows(164, 100, 8)) + rows:
            others = [(Fraction(*first), Fraction(*last), sign) for first, last, sign in other_lengths(row)]
            for first, last, sign in others:
                for one, other, second in others:
                    if first + one < row.days:
                        # Some lengths of both open spans are together at most the days.
                        count += 1
                        self.is_same(sign, second)
                half = (first + last) / 2
                self.is_same(sign_of(row.gains, row.days - half, 0), 0)
        self.assertGreater(count, 10)

    def test_the_last_span(self):
        for row in level_rows(165, 200, 6):
            first, last = level_lengths(row)[-1]
            alone = row.gains[0] * row.gains[-1] > 0
            self.is_same(last, (row.days, 1))
            self.is_same(first == last, alone)

    def test_an_end_at_a_place(self):
        for row in level_rows(166, 40, 6):
            for span in level_lengths(row):
                for length in (Fraction(*span[0]), Fraction(*span[1])):
                    if length > 0:
                        begins = [end for spot in sum_begins(row, pair(length), (0, 1)) for end in spot]
                        self.assertTrue(any(
                            Fraction(*begin).denominator == 1 or (Fraction(*begin) + length).denominator == 1 for begin in begins))

    def test_turned_backwards_and_times(self):
        for row in level_rows(167, 80, 8):
            spans, others = level_lengths(row), other_lengths(row)
            self.is_same((level_lengths(row.backwards()), other_lengths(row.backwards())), (spans, others))
            for number in (1, 3, 10 ** 6):
                self.is_same((level_lengths(row.times(number)), other_lengths(row.times(number))), (spans, others))
            turned = tuple((first, last, -sign) for first, last, sign in others)
            self.is_same((level_lengths(row.times(-2)), other_lengths(row.times(-2))), (spans, turned))
            self.is_same(level_lengths(row.times(0)), (((0, 1), (row.days, 1)),))

    def test_cut_finer(self):
        for row in list(level_rows(168, 40, 6)) + [SEVEN, THREE]:
            spans, others = level_lengths(row), other_lengths(row)
            for parts in (2, 3, 24 // row.days):
                finer = cut_finer(row, parts)
                self.is_same(level_lengths(finer), tuple(
                    (pair(parts * Fraction(*first)), pair(parts * Fraction(*last))) for first, last in spans))
                self.is_same(other_lengths(finer), tuple(
                    (pair(parts * Fraction(*first)), pair(parts * Fraction(*last)), sign) for first, last, sign in others))
                for length, sign in missed(finer).signs:
                    paper = level_stretch(row, pair(Fraction(length, parts)))
                    self.is_same((bool(paper), paper.parts), (False, (sign,)))

    def test_cut_finer_beyond(self):
        row = Row([-1, 2, -1, 3, -2, -1, 0, 2, -1, -1, 1, -1])
        finer = cut_finer(row, 4)
        self.is_same(finer.days, 48)
        signs = dict(missed(finer).signs)
        spans = [(Fraction(*first), Fraction(*last)) for first, last in level_lengths(row)]
        for length in range(1, 48):
            self.is_same(any(first <= Fraction(length, 4) <= last for first, last in spans), length not in signs)

    def test_levelled_rows(self):
        for row in some_rows(169, 30, 5):
            level = levelled(row)
            for first, last in level_lengths(level):
                for length in (Fraction(*first), Fraction(*last)):
                    if length > 0:
                        self.assertTrue(average_stretch(row, pair(length)))
            for first, last, sign in other_lengths(level):
                half = (Fraction(*first) + Fraction(*last)) / 2
                self.is_same(average_stretch(row, pair(half)).sign, sign)

    def test_errors(self):
        for call in (level_lengths, other_lengths):
            for value in NO_ROWS:
                self.refuses(BadRow("row"), call, value)
                self.refuses(BadRow("row"), call, row=value)
            for gains in ([1], [0, 1], [2, -1], [1] * 24, [1] * 25, [1] * 48):
                self.refuses(Misfit("level"), call, Row(gains))
            for days in (25, 26, 48):
                self.refuses(TooMany("days", 24), call, Row([0] * days))
            call(Row([0] * 24))

    def test_edges(self):
        self.is_same(level_lengths(Row([0])), (((0, 1), (1, 1)),))
        self.is_same(level_lengths(Row([0] * 24)), (((0, 1), (24, 1)),))
        self.is_same(other_lengths(Row([0] * 24)), ())
        self.is_same(level_lengths(Row([HUGE, -2 * HUGE, HUGE])), (((0, 1), (3, 2)), ((3, 1), (3, 1))))
        self.is_same(other_lengths(Row([HUGE, -2 * HUGE, HUGE])), (((3, 2), (3, 1), -1),))
        row = Row([-1] * 23 + [23])
        self.is_same(level_lengths(row), (((0, 1), (24, 1)),))
        self.right(Row([1, 1, -5, 1, 1, 1]))

    def test_time(self):
        chance = random.Random(170)
        begun = perf_counter()
        for _ in range(5):
            row = levelled(Row([chance.randint(-40000, 40000) for _ in range(24)]))
            level_lengths(row), other_lengths(row)
            for length in ((24, 1), (7, 2), (999983, 50000)):
                level_stretch(row, length), average_stretch(row, length), sum_begins(row, length, (1, 999983))
        self.assertLess(perf_counter() - begun, 3)


class Facts(Case):

    def test_heights_of_the_tests_themselves(self):
        self.is_same(height((-1, 2, -1), Fraction(3, 2)), Fraction(0))
        self.is_same(sums(THREE, 2), (1, 1))
