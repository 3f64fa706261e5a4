"""Points 2 and 5: rules made, refused, kept, turned, multiplied, added, read."""

import random

from anyseven.errors import BadNumber, BadRow, BadRule, BadText
from anyseven.papers import Paper
from anyseven.rows import Row
from anyseven.rules import Rule
from tests.support import NO_INTEGERS, NO_NUMBER_ITEMS, NO_STRINGS, OTHER, Case
from tests.test_rows import NO_ROWS

HUGE = 10 ** 5000
NO_RULES = (True, False, None, 0, 3, "3 1 -", [3, 1, None], (3, 1), {}, OTHER, Rule, Row([1]), Paper("rule", 3, 1, None))
PAIRS = ((0, None), (None, 0), (1, None), (None, -1), (-4, 5), (2, 2), (-3, -3), (0, 0), (-HUGE, HUGE))


def told(rule):
    return (rule.length, rule.low, rule.high)


def keeps(gains, length, low, high):
    """Whether these gains keep such a rule, added up anew; and where they break it first."""
    for begin in range(len(gains) - length + 1):
        total = sum(gains[begin:begin + length])
        if (low is not None and total < low) or (high is not None and total > high):
            return False, begin
    return True, None


class Made(Case):

    def test_attributes(self):
        for length in (1, 2, 7, 47, 48):
            for low, high in PAIRS:
                for rule in (Rule(length, low, high), Rule(high=high, length=length, low=low)):
                    self.is_same(told(rule), (length, low, high))
        self.is_same(told(Rule(7, 1)), (7, 1, None))
        self.is_same(told(Rule(7, high=1)), (7, None, 1))
        self.is_same(told(Rule(7, None, 1)), (7, None, 1))

    def test_lengths_that_are_none(self):
        for value in NO_INTEGERS + (0, -1, 49, 100, HUGE):
            self.refuses(BadNumber("length"), Rule, value, 1)
            self.refuses(BadNumber("length"), Rule, value)
            self.refuses(BadNumber("length"), Rule, value, "x", "x")
            self.refuses(BadNumber("length"), Rule, value, 2, 1)

    def test_bounds_that_are_none(self):
        for value in NO_INTEGERS:
            if value is not None:
                self.refuses(BadNumber("low"), Rule, 1, value)
                self.refuses(BadNumber("low"), Rule, 1, value, value)
                self.refuses(BadNumber("high"), Rule, 1, None, value)
                self.refuses(BadNumber("high"), Rule, 1, high=value)
                self.refuses(BadNumber("high"), Rule, 1, 5, value)

    def test_bounds_that_do_not_go_together(self):
        for low, high in ((None, None), (1, 0), (0, -1), (-1, -2), (HUGE, -HUGE), (5, 4)):
            self.refuses(BadRule("bounds"), Rule, 3, low, high)
        self.refuses(BadRule("bounds"), Rule, 3)

    def test_equal_rules(self):
        self.is_same(Rule(3, 1) == Rule(3, 1, None), True)
        self.is_same(Rule(3, 1) != Rule(3, 1, None), False)
        self.differs(Rule(3, 1), [Rule(2, 1), Rule(3, 2), Rule(3, 1, 1), Rule(3, None, 1), 3, "3 1 -", None, (3, 1, None)])
        self.differs(Rule(3, 0, 0), [Rule(3, 0), Rule(3, None, 0), Rule(3, 0, 1), Rule(3, -1, 0), OTHER, Row([3, 0, 0])])


class KeptByRows(Case):

    def test_kept_and_broken(self):
        chance = random.Random(6)
        seen = [0, 0]
        for _ in range(600):
            gains = [chance.randint(-3, 3) for _ in range(chance.randint(1, 9))]
            length = chance.randint(1, 10)
            low = chance.choice((None, -5, -2, 0, 1))
            high = chance.choice((1, 3, 6) if low is None else (None, 1, 3, 6))
            right, begin = keeps(gains, length, low, high)
            rule = Rule(length, low, high)
            self.is_same(rule.keeps(Row(gains)), right)
            self.is_same(rule.first_broken(row=Row(gains)), begin)
            self.is_same(rule.keeps(Row(gains).backwards()), right)
            self.is_same(rule.turned().keeps(row=Row(gains).times(-1)), right)
            self.is_same(rule.times(5).keeps(Row(gains).times(5)), right)
            seen[right] += 1
        self.assertTrue(min(seen) > 100, seen)

    def test_bounds_count(self):
        row = Row([1, 2, 3])
        for low, high, begin in (
                (1, 3, None), (2, 3, 0), (1, 2, 2), (None, 3, None), (None, 2, 2), (None, 0, 0), (1, None, None),
                (2, None, 0), (4, None, 0), (1, 1, 1)):
            self.is_same(Rule(1, low, high).first_broken(row), begin)
            self.is_same(Rule(1, low, high).keeps(row), begin is None)

    def test_more_days_than_the_row(self):
        for length in (4, 5, 48):
            self.is_same(Rule(length, 9, 9).keeps(Row([1, 2, 3])), True)
            self.is_same(Rule(length, 9, 9).first_broken(Row([1, 2, 3])), None)
        self.is_same(Rule(3, 9, 9).first_broken(Row([1, 2, 3])), 0)
        self.is_same(Rule(48, 48, 48).keeps(Row([1] * 48)), True)
        self.is_same(Rule(48, None, 47).first_broken(Row([1] * 48)), 0)

    def test_what_is_no_row(self):
        for value in NO_ROWS:
            self.refuses(BadRow("row"), Rule(7, 1).keeps, value)
            self.refuses(BadRow("row"), Rule(7, 1).first_broken, value)


class Changed(Case):

    def test_turned(self):
        for low, high in PAIRS:
            turned = Rule(7, low, high).turned()
            self.is_same(told(turned), (7, None if high is None else -high, None if low is None else -low))
            self.is_same(turned.turned(), Rule(7, low, high))

    def test_times(self):
        for low, high in PAIRS:
            for number in (1, 2, 9, HUGE):
                right = (7, None if low is None else low * number, None if high is None else high * number)
                self.is_same(told(Rule(7, low, high).times(number)), right)
        self.is_same(Rule(7, -1, 3).times(number=2), Rule(7, -2, 6))
        for value in NO_INTEGERS + (0, -1, -HUGE):
            self.refuses(BadNumber("number"), Rule(7, -1, 3).times, value)

    def test_added(self):
        for low, high in PAIRS:
            for other_low, other_high in PAIRS:
                right = (
                    7, None if None in (low, other_low) else low + other_low,
                    None if None in (high, other_high) else high + other_high)
                rule, other = Rule(7, low, high), Rule(7, other_low, other_high)
                if right[1:] == (None, None):
                    self.refuses(BadRule("bounds"), rule.added, other)
                else:
                    self.is_same(told(rule.added(other=other)), right)

    def test_added_no_rule_of_the_length(self):
        for value in NO_RULES + (Rule(2, 1), Rule(8, None, 1)):
            self.refuses(BadRule("other"), Rule(7, 1).added, value)
        self.refuses(BadRule("other"), Rule(7, 1).added, Rule(6, None, 1))
        self.refuses(BadRule("bounds"), Rule(7, 1).added, Rule(7, None, 1))


class Texts(Case):

    def test_texts(self):
        for length in (1, 7, 48):
            for low, high in PAIRS[:-1] + ((10 ** 59, None), (-10 ** 60 + 1, 10 ** 60 - 1)):
                text = f"{length} {'-' if low is None else low} {'-' if high is None else high}"
                self.is_same(str(Rule(length, low, high)), text)
                self.is_same(Rule.read(text=text), Rule(length, low, high))
        self.is_same(str(Rule(3, -HUGE, 10 ** 60)), f"3 -1{'0' * 5000} 1{'0' * 60}")

    def test_what_is_no_text(self):
        for value in NO_STRINGS + (Rule(3, 1),):
            self.refuses(BadText(0, 0), Rule.read, value)

    def test_items_that_cannot_stand(self):
        no_lengths = NO_NUMBER_ITEMS + ("0", "-1", "49", "100", "9" * 60)
        no_bounds = tuple(item for item in NO_NUMBER_ITEMS if item != "-")
        self.bends(Rule.read, "7 -1 3", [no_lengths, no_bounds, no_bounds + ("-2", "-" + "9" * 60)])
        self.bends(Rule.read, "1 - 0", [no_lengths, no_bounds, NO_NUMBER_ITEMS])
        self.bends(Rule.read, "48 0 -", [no_lengths, no_bounds, no_bounds + ("-1",)])

    def test_items_missing_or_too_many(self):
        for text, item in (
                ("", 0), ("3", 1), ("3 ", 1), ("3 1", 2), ("3 -", 2), ("3 1 ", 2), ("3 1 2 ", 3), ("3 1 2 4", 3),
                ("3 1 2 - -", 3), (" 3 1 2", 0), ("3  1 2", 1), ("3 - -", 2), ("3 2 1 9", 2), ("x y z", 0)):
            self.refuses(BadText(0, item), Rule.read, text)
