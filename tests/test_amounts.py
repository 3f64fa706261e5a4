"""Points 2 and 14: amounts made, refused, read, turned, exchanged, cut, and the parts that stretches have."""

import random
from fractions import Fraction

from anyseven.amounts import Amounts
from anyseven.errors import BadAmounts, BadFraction, BadNumber, BadText, TooMany
from anyseven.papers import Paper
from anyseven.rows import Row
from tests.anew_levels import pair
from tests.anew_shares import parts_of
from tests.support import NO_INTEGERS, NO_LISTS, NO_LISTS_OF_INTEGERS, NO_NUMBER_ITEMS, NO_STRINGS, OTHER, Case
from tests.test_moments import NO_FRACTIONS

HUGE = 10 ** 5000
NO_AMOUNTS = (True, False, None, 0, "1 1", [[1, 1]], (1, 1), [1, 1], {}, OTHER, Amounts, Row([1]), Paper("amounts", ((1, 1),)))
THREE = Amounts([[1, 0], [1, 1], [1, 0]])


def some_pairs(seed, count, most_days=8, most=4):
    """Lists of pairs, many of them with nothing of one thing, or of both, on some days."""
    chance = random.Random(seed)
    while count > 0:
        pairs = []
        for _ in range(chance.randint(1, most_days)):
            first, second = chance.randint(0, most), chance.randint(0, most)
            pairs.append(chance.choice([(first, second), (first, second), (first, 0), (0, second), (0, 0), (first, first), (1, second)]))
        if sum(first for first, _ in pairs) and sum(second for _, second in pairs):
            count -= 1
            yield pairs


class Made(Case):

    def test_attributes(self):
        for pairs in some_pairs(801, 60, 24):
            for amounts in (Amounts(pairs), Amounts(pairs=tuple(map(list, pairs)))):
                totals = (sum(first for first, _ in pairs), sum(second for _, second in pairs))
                self.is_same((amounts.pairs, amounts.days, amounts.totals), (tuple(pairs), len(pairs), totals))

    def test_what_is_passed_is_copied(self):
        pairs = [[1, 2], [3, 4]]
        amounts = Amounts(pairs)
        pairs[0][0] = 9
        pairs.append([5, 6])
        self.is_same((amounts.pairs, amounts.totals, amounts.days), (((1, 2), (3, 4)), (4, 6), 2))

    def test_what_makes_no_amounts(self):
        for value in NO_LISTS + ([], (), THREE, Row([1]), [1, 1], (1, 1), [[1, 1], [1]], [[1, 1, 1]], [[]], [[1, -1], [1, 2]], [[-1, 1]]):
            self.refuses(BadAmounts("pairs"), Amounts, value)
        for value in NO_LISTS_OF_INTEGERS:
            self.refuses(BadAmounts("pairs"), Amounts, [[1, 1], value])
        for value in NO_INTEGERS + (-1,):
            self.refuses(BadAmounts("pairs"), Amounts, [[1, value], [1, 1]])
            self.refuses(BadAmounts("pairs"), Amounts, [[1, 1], (value, 1)])
        for value in ([[0, 0]], [[1, 0]], [[0, 1]], [[0, 1], [0, 7]], [[1, 0]] * 24, [[0, 1]] * 30):
            self.refuses(BadAmounts("pairs"), Amounts, value)

    def test_days(self):
        self.is_same(Amounts([[1, 1]] * 24).days, 24)
        for days in (25, 26, 100):
            self.refuses(TooMany("days", 24), Amounts, [[1, 1]] * days)
            self.refuses(BadAmounts("pairs"), Amounts, [[1, 0]] * days)
            self.refuses(BadAmounts("pairs"), Amounts, [[1, 1]] * days + [None])

    def test_equal_amounts(self):
        self.is_same(Amounts([[1, 2]]) == Amounts(((1, 2),)), True)
        self.is_same(Amounts([[1, 2]]) != Amounts(((1, 2),)), False)
        self.differs(Amounts([[1, 2]]), [
            Amounts([[2, 1]]), Amounts([[1, 2], [0, 0]]), Amounts([[2, 4]]), ((1, 2),), [[1, 2]], "1 2", Row([1, 2]), None, OTHER])


class Parts(Case):

    def test_against_adding_up(self):
        chance = random.Random(802)
        for pairs in some_pairs(803, 60):
            amounts, days = Amounts(pairs), len(pairs)
            for _ in range(20):
                by = chance.choice((1, 1, 2, 3, 7, 10 ** 9))
                first = Fraction(chance.randint(0, days * by), by)
                last = first + Fraction(chance.randint(0, days * by), by)
                right = tuple(map(pair, parts_of(pairs, first, last)))
                self.is_same(amounts.parts(pair(first), pair(last)), right)
                self.is_same(amounts.parts(last=list(pair(last)), first=list(pair(first))), right)

    def test_edges(self):
        whole, none = ((1, 1), (1, 1)), ((0, 1), (0, 1))
        for pairs in some_pairs(804, 30, 24):
            amounts, days = Amounts(pairs), len(pairs)
            self.is_same(amounts.parts((0, 1), (days, 1)), whole)
            self.is_same(amounts.parts((days, 1), (2 * days, 1)), whole)
            self.is_same(amounts.parts((1, 2), (2 * days + 1, 2)), whole)
            for moment in ((0, 1), (days, 1), (1, 3)):
                self.is_same(amounts.parts(moment, moment), none)
        self.is_same(Amounts([[HUGE, 1]]).parts((0, 1), (1, 2)), ((1, 2), (1, 2)))

    def test_what_a_round_leaves(self):
        for pairs in some_pairs(805, 30):
            amounts, days = Amounts(pairs), len(pairs)
            first, last = Fraction(1, 3), Fraction(2 * days, 3)
            within = amounts.parts(pair(first), pair(last))
            beyond = amounts.parts(pair(last), pair(first + days))
            self.is_same(beyond, tuple((by - number, by) for number, by in within))

    def test_no_moments(self):
        for value in NO_FRACTIONS + ((-1, 1), (-1, 10 ** 9), (4, 1), (7, 2), (HUGE, 1)):
            self.refuses(BadFraction("first"), THREE.parts, value, (3, 1))
            self.refuses(BadFraction("first"), THREE.parts, value, None)
        for value in NO_FRACTIONS + ((-1, 1), (1, 2), (0, 1), (9, 10), (5, 1), (9, 2), (4 * 10 ** 9 + 1, 10 ** 9), (HUGE, 1)):
            self.refuses(BadFraction("last"), THREE.parts, (1, 1), value)
        self.refuses(BadFraction("last"), THREE.parts, first=(3, 1), last=(2, 1))
        self.refuses(BadFraction("last"), THREE.parts, (0, 1), (10, 3))


class Changed(Case):

    def test_turned(self):
        for pairs in some_pairs(806, 40):
            amounts, days = Amounts(pairs), len(pairs)
            for by in (0, 1, -1, 2, days, days + 1, -days, 10 ** 70, -10 ** 70, HUGE + 1):
                right = tuple(pairs[(day + by) % days] for day in range(days))
                self.is_same(amounts.turned(by).pairs, right)
                self.is_same(amounts.turned(by=by), Amounts(right))
        for value in NO_INTEGERS:
            self.refuses(BadNumber("by"), THREE.turned, value)

    def test_backwards_and_exchanged(self):
        for pairs in some_pairs(807, 40):
            amounts = Amounts(pairs)
            self.is_same(amounts.backwards().pairs, tuple(reversed(pairs)))
            self.is_same(amounts.exchanged().pairs, tuple((second, first) for first, second in pairs))
            self.is_same(amounts.backwards().backwards() == amounts.exchanged().exchanged(), True)
            self.is_same(amounts.exchanged().totals, amounts.totals[::-1])

    def test_cut(self):
        for pairs in some_pairs(808, 40):
            amounts = Amounts(pairs)
            for parts in (1, 2, 3, 5, 24, 25, HUGE):
                if parts * len(pairs) > 24:
                    self.refuses(TooMany("days", 24), amounts.cut, parts)
                else:
                    self.is_same(amounts.cut(parts).pairs, tuple(one for one in pairs for _ in range(parts)))
                    self.is_same(amounts.cut(parts=parts).parts((0, 1), (parts, 1)), amounts.parts((0, 1), (1, 1)))
        for value in NO_INTEGERS + (0, -1, -HUGE):
            self.refuses(BadNumber("parts"), THREE.cut, value)
            self.refuses(BadNumber("parts"), Amounts([[1, 1]] * 24).cut, value)
        self.is_same(Amounts([[1, 1]]).cut(24).days, 24)

    def test_nothing_changes_the_amounts(self):
        amounts = Amounts([[1, 0], [1, 1], [1, 0]])
        amounts.turned(1), amounts.backwards(), amounts.exchanged(), amounts.cut(2), amounts.parts((0, 1), (1, 1))
        self.is_same((amounts.pairs, amounts.days, amounts.totals), (((1, 0), (1, 1), (1, 0)), 3, (3, 1)))


class Texts(Case):

    def test_texts(self):
        for pairs in some_pairs(809, 60, 24):
            text = " / ".join(f"{first} {second}" for first, second in pairs)
            self.is_same(str(Amounts(pairs)), text)
            self.is_same(Amounts.read(text), Amounts(pairs))
            self.is_same(Amounts.read(text=text).pairs, tuple(pairs))

    def test_long_numbers(self):
        for digits in ("1" * 60, "9" * 60, "1" + "0" * 59):
            self.is_same(Amounts.read("1 " + digits).pairs, ((1, int(digits)),))
        self.refuses(BadText(0, 1), Amounts.read, "1 1" + "0" * 60)
        self.is_same(str(Amounts([[10 ** 60, HUGE]])), "1" + "0" * 60 + " 1" + "0" * 5000)

    def test_what_is_no_text(self):
        for value in NO_STRINGS + (THREE,):
            self.refuses(BadText(0, 0), Amounts.read, value)

    def test_items_that_cannot_stand(self):
        numbers = NO_NUMBER_ITEMS + ("-1", "-7")
        marks = ("", "-", ",", "//", "0", "1", "x", ":", "/\n")
        self.bends(Amounts.read, "5 7", [numbers] * 2)
        self.bends(Amounts.read, "1 0 / 1 1 / 1 0", [numbers, numbers, marks, numbers, numbers, marks, numbers, numbers])

    def test_missing_items(self):
        for text, item in (
                ("", 0), ("1", 1), ("1 ", 1), ("1 1 ", 2), ("1 1 /", 3), ("1 1 / 1", 4), ("1 1 / ", 3), (" 1 1", 0), ("1  1", 1), ("1 1 1", 2),
                ("1 1  / 1 1", 2), ("1 1 / 1 1 ", 5), ("1 1 /  1 1", 3), ("1/1", 0)):
            self.refuses(BadText(0, item), Amounts.read, text)

    def test_totals_of_0(self):
        for text, item in (
                ("0 0", 1), ("1 0", 1), ("0 1", 1), ("0 1 / 0 1", 4), ("1 0 / 7 0 / 1 0", 7), ("0 0 / 0 0", 4), ("1 0 /", 3), ("1 0 / x", 3)):
            self.refuses(BadText(0, item), Amounts.read, text)
        self.refuses(BadText(0, 70), Amounts.read, " / ".join(["1 0"] * 24))

    def test_items_too_many(self):
        full = " / ".join(["1 1"] * 24)
        self.is_same(Amounts.read(full).days, 24)
        for more in (" /", " / 1", " / 1 1", " x", " ", " / 1 1 / 1 1"):
            self.refuses(BadText(0, 71), Amounts.read, full + more)
        self.refuses(BadText(0, 71), Amounts.read, " / ".join(["1 0"] * 25))
        self.refuses(BadText(0, 71), Amounts.read, " / ".join(["1 1"] * 3000))
