"""Point 2: checks of any value, greatest common divisors, fractions in lowest terms."""

from fractions import Fraction
from math import gcd

from anyseven import checks
from anyseven.checks import (
    are_integers, are_lengths, common_divisor, first_twice, is_fraction, is_integer, is_name, is_within, lowest)
from anyseven.errors import BadLot, BadNumber, Twice
from anyseven.rows import Row
from tests.support import NO_INTEGERS, NO_LISTS, NO_LISTS_OF_INTEGERS, OTHER, Case

HUGE = 10 ** 5000


class AnyValues(Case):

    def test_integers(self):
        for value in (0, 1, -1, 7, HUGE, -HUGE):
            self.is_same(is_integer(value), True)
        for value in NO_INTEGERS + (Row([1]),):
            self.is_same(is_integer(value), False)

    def test_within(self):
        for value, least, most, right in (
                (3, 3, 3, True), (2, 3, 4, False), (5, 3, 4, False), (3, None, 3, True), (4, None, 3, False),
                (3, 3, None, True), (2, 3, None, False), (-HUGE, None, None, True), (0, 0, None, True),
                (0, None, 0, True), (1, None, 0, False), (-1, 0, None, False), (4, 5, 3, False)):
            self.is_same(is_within(value, least, most), right)
        for value in NO_INTEGERS:
            self.is_same(is_within(value, None, None), False)
            self.is_same(is_within(value, 0, 5), False)

    def test_names(self):
        for value in ("a", "z", "a1", "row", "x0123456789z"[:12], "abcdefghijkl", "q9"):
            self.is_same(is_name(value), True)
        for value in (
                "", "1", "1a", "A", "aB", "a b", " a", "a ", "a-", "a_b", "abcdefghijklm", "\u00e4", "a\u0663", "a\n",
                "\u00aa", 1, None, True, b"a", ["a"], ("a", "b"), {"a": 1}, OTHER):
            self.is_same(is_name(value), False)

    def test_lists_of_integers(self):
        for value in ([], (), [1], (0, -1, HUGE), [1, 1]):
            self.is_same(are_integers(value), True)
        for value in NO_LISTS_OF_INTEGERS + (Row([1]),):
            self.is_same(are_integers(value), False)

    def test_fractions(self):
        for value in ((0, 1), [0, 1], (1, 1), (-3, 2), (7, 1), (HUGE, HUGE + 1), (-1, HUGE)):
            self.is_same(is_fraction(value), True)
        for value in (
                (0, 2), (2, 4), (-2, 4), (1, 0), (0, 0), (1, -1), (-1, -2), (0, -1), (1,), (1, 2, 3), (), [],
                (1, True), (True, 1), (None, 1), (1, None), (1.0, 2), ("1", "2"), "12", 1, None, True, {1: 1, 2: 1},
                {1, 2}, OTHER, ((1, 2), 1)):
            self.is_same(is_fraction(value), False)
        for number in range(-12, 13):
            for by in range(-12, 13):
                right = by > 0 and gcd(number, by) == 1
                self.is_same(is_fraction([number, by]), right)

    def test_lengths(self):
        for value in ([], (), [1], [3, 1], (48, 47, 1), [HUGE, 1]):
            self.is_same(are_lengths(value), True)
        for value in ([0], [1, 0], (-1,), [1, 1], (2, 3, 2)) + NO_LISTS_OF_INTEGERS:
            self.is_same(are_lengths(value), False)

    def test_first_twice(self):
        for values, right in (
                ([], None), ([1], None), ((1, 2, 3), None), ([2, 1, 1, 2], 1), ((2, 1, 2, 1), 2), ([0, 0], 0),
                ([-1, -2, -1], -1), (["a", "b", "a"], "a"), (("", ""), ""), (["a", "A"], None), ([1, "1"], None),
                ([HUGE, 3, 10 ** 5000], HUGE), ([5, 5, 5], 5)):
            self.is_same(first_twice(values), right)
        self.assertIsNone(first_twice(list(range(100000))))

    def test_they_are_called_by_name(self):
        self.is_same(is_within(value=3, least=1, most=None), True)
        self.is_same(first_twice(values=[1, 1]), 1)
        for check in (is_integer, is_name, are_integers, is_fraction, are_lengths):
            self.is_same(check(value=None), False)


class Fractions(Case):

    def test_common_divisors(self):
        for one in range(-30, 31):
            for other in range(-30, 31):
                both = [by for by in range(1, 31) if one % by == 0 and other % by == 0]
                right = 0 if one == other == 0 else max(both)
                self.is_same(common_divisor(one, other), right)
        self.is_same(common_divisor(other=6 * HUGE, one=-4 * HUGE), 2 * HUGE)

    def test_common_divisors_of_others(self):
        for value in NO_INTEGERS:
            self.refuses(BadNumber("one"), common_divisor, value, 1)
            self.refuses(BadNumber("other"), common_divisor, 1, value)
            self.refuses(BadNumber("one"), common_divisor, value, value)

    def test_lowest(self):
        for number in range(-30, 31):
            for by in range(-30, 31):
                if by:
                    right = Fraction(number, by)
                    self.is_same(lowest(number, by), (right.numerator, right.denominator))
                    self.is_same(is_fraction(lowest(number, by)), True)
        self.is_same(lowest(by=-4 * HUGE, number=6 * HUGE), (-3, 2))
        self.is_same(lowest(0, -HUGE), (0, 1))

    def test_lowest_of_others(self):
        for value in NO_INTEGERS:
            self.refuses(BadNumber("number"), lowest, value, 1)
            self.refuses(BadNumber("by"), lowest, 1, value)
            self.refuses(BadNumber("number"), lowest, value, 0)
            self.refuses(BadNumber("number"), lowest, value, value)
        self.refuses(BadNumber("by"), lowest, 1, 0)
        self.refuses(BadNumber("by"), lowest, 0, 0)


class Needed(Case):
    """The checks by which other files of the package refuse what is passed."""

    def test_numbers(self):
        self.assertIsNone(checks.need_number(3, "days", 1, 3))
        self.refuses(BadNumber("days"), checks.need_number, 4, "days", 1, 3)
        self.refuses(BadNumber("days"), checks.need_number, True, "days")

    def test_lengths(self):
        for value in ([], (3, 1), [48]):
            self.assertIsNone(checks.need_lengths(value, "lengths", 48))
        for value in NO_LISTS + ([49], [0], [1, 1, 49], [1, True]):
            self.refuses(BadLot("lengths"), checks.need_lengths, value, "lengths", 48)
        self.refuses(Twice(5), checks.need_lengths, [6, 5, 5, 6], "lengths", 48)

    def test_bounds(self):
        for low, high, right in (
                (None, None, False), (None, 0, True), (0, None, True), (0, 0, True), (1, 0, False), (-1, 0, True)):
            self.is_same(checks.are_bounds(low, high), right)
