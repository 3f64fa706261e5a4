"""Points 2 and 4: rows by their gains and by their heights, turned about, put together, cut, read."""

import random

from anyseven.errors import BadNumber, BadRow, BadText, Misfit, TooMany
from anyseven.kept import Kept
from anyseven.rounds import Round
from anyseven.rows import Row, row_at
from anyseven.rules import Rule
from tests.support import NO_INTEGERS, NO_LISTS_OF_INTEGERS, NO_NUMBER_ITEMS, NO_STRINGS, OTHER, Case

HUGE = 10 ** 5000
NO_ROWS = (
    True, False, None, 0, 1, "1 2", "", [1, 2], (1,), {}, {"gains": (1,)}, OTHER, Row, Rule(1, 1), Kept(Row([1])), Round([1, 2]))


class Below(Row):
    """A class below Row; its objects are Rows, too."""


def some_rows():
    chance = random.Random(4)
    rows = [[chance.randint(-5, 5) for _ in range(days)] for days in (1, 2, 3, 4, 5, 7, 12, 48)]
    return rows + [[0], [0, 0, 0], [-1, HUGE, -HUGE]]


class Made(Case):

    def test_attributes(self):
        for gains in some_rows():
            for row in (Row(gains), Row(tuple(gains)), Row(gains=gains)):
                self.is_same(row.gains, tuple(gains))
                self.is_same(row.heights, tuple(sum(gains[:place]) for place in range(len(gains) + 1)))
                self.is_same((row.days, len(row), row.total), (len(gains), len(gains), sum(gains)))

    def test_what_is_passed_is_copied(self):
        gains = [1, 2, 3]
        row = Row(gains)
        gains[0] = 9
        gains.append(4)
        self.is_same((row.gains, row.heights, len(row)), ((1, 2, 3), (0, 1, 3, 6), 3))

    def test_what_makes_no_row(self):
        for value in NO_LISTS_OF_INTEGERS + ([], (), Row([1])):
            self.refuses(BadRow("gains"), Row, value)

    def test_days(self):
        self.assertEqual(Row([1] * 48).days, 48)
        for days in (49, 50, 200):
            self.refuses(TooMany("days", 48), Row, [1] * days)
            self.refuses(BadRow("gains"), Row, [1] * (days - 1) + [True])

    def test_equal_rows(self):
        self.is_same(Row([1, 2]) == Row((1, 2)), True)
        self.is_same(Row([1, 2]) != Row((1, 2)), False)
        self.differs(Row([1, 2]), [Row([2, 1]), Row([1]), Row([1, 2, 0]), (1, 2), [1, 2], "1 2", None, Kept(Row([1, 2]))])
        self.differs(Row([1]), [1, True, Rule(1, 1), OTHER])


class Stretches(Case):

    def test_sums_and_parts(self):
        for gains in some_rows():
            row, days = Row(gains), len(gains)
            for begin in range(days):
                for length in range(1, days - begin + 1):
                    cut = gains[begin:begin + length]
                    self.is_same(row.sum_of(begin, length), sum(cut))
                    self.is_same(row.part(begin, length).gains, tuple(cut))
        self.is_same(Row([1, 2, 4]).sum_of(length=2, begin=1), 6)
        self.is_same(Row([1, 2, 4]).part(length=1, begin=2), Row([4]))

    def test_what_is_no_stretch(self):
        row = Row([1, 2, 4])
        for call in (row.sum_of, row.part):
            for value in NO_INTEGERS + (-1, 3, 4, HUGE):
                self.refuses(BadNumber("begin"), call, value, 1)
                self.refuses(BadNumber("begin"), call, value, value)
            for value in NO_INTEGERS + (-1, 0, 4, HUGE):
                for begin in range(3):
                    self.refuses(BadNumber("length"), call, begin, value)
            for begin in range(3):
                self.refuses(BadNumber("length"), call, begin, 4 - begin)
            self.refuses(BadNumber("begin"), call, begin=3, length=0)


class Changed(Case):

    def test_backwards(self):
        for gains in some_rows():
            back = Row(gains).backwards()
            self.is_same(back.gains, tuple(reversed(gains)))
            self.is_same(back.backwards() == Row(gains), True)

    def test_times_and_plus(self):
        for gains in some_rows():
            for number in (-7, -1, 0, 1, 2, HUGE):
                self.is_same(Row(gains).times(number).gains, tuple(gain * number for gain in gains))
                self.is_same(Row(gains).plus(number=number).gains, tuple(gain + number for gain in gains))
        self.is_same(Row([3]).times(number=2), Row([6]))

    def test_times_and_plus_no_number(self):
        for value in NO_INTEGERS:
            self.refuses(BadNumber("number"), Row([1]).times, value)
            self.refuses(BadNumber("number"), Row([1]).plus, value)

    def test_joined(self):
        for gains in ([1], [1, -2], [0] * 24):
            for others in ([3], [4, 5, 6], [1] * 24):
                self.is_same(Row(gains).joined(Row(others)).gains, tuple(gains + others))
        self.is_same(Row([1]).joined(other=Row([2])), Row([1, 2]))
        for days, others in ((1, 48), (48, 1), (25, 24), (48, 48)):
            self.refuses(TooMany("days", 48), Row([1] * days).joined, Row([1] * others))

    def test_added(self):
        self.is_same(Row([1, -2]).added(Row([4, 8])), Row([5, 6]))
        self.is_same(Row([1] * 48).added(other=Row([-1] * 48)), Row([0] * 48))
        for days, others in ((1, 2), (2, 1), (48, 47)):
            self.refuses(Misfit("days"), Row([1] * days).added, Row([1] * others))

    def test_others_that_are_no_rows(self):
        for value in NO_ROWS:
            self.refuses(BadRow("other"), Row([1] * 48).joined, value)
            self.refuses(BadRow("other"), Row([1]).added, value)
        self.is_same(Row([1]).joined(Below([2])), Row([1, 2]))

    def test_nothing_changes_the_row(self):
        row = Row([1, 2, 4])
        row.backwards(), row.times(3), row.plus(1), row.joined(row), row.added(row), row.part(0, 2)
        self.is_same((row.gains, row.heights, row.days, row.total), ((1, 2, 4), (0, 1, 3, 7), 3, 7))


class Heights(Case):

    def test_rows_of_heights(self):
        for gains in some_rows():
            heights = [sum(gains[:place]) for place in range(len(gains) + 1)]
            for row in (Row.of(heights), Row.of(heights=tuple(heights))):
                self.is_same((row.gains, row.heights), (tuple(gains), tuple(heights)))

    def test_what_are_no_heights(self):
        for value in NO_LISTS_OF_INTEGERS + ([], (), [0], [1], [1, 2], (-1, 0), [False, 1], [1] * 60, Row([1])):
            self.refuses(BadNumber("heights"), Row.of, value)

    def test_days(self):
        self.assertEqual(len(Row.of([0] * 49)), 48)
        self.refuses(TooMany("days", 48), Row.of, [0] * 50)
        self.refuses(BadNumber("heights"), Row.of, [1] + [0] * 49)
        self.refuses(BadNumber("heights"), Row.of, [0] * 49 + ["0"])


class Texts(Case):

    def test_texts(self):
        for gains in some_rows()[:-1]:
            text = " ".join(str(gain) for gain in gains)
            self.is_same(str(Row(gains)), text)
            self.is_same(Row.read(text), Row(gains))
            self.is_same(Row.read(text=text).gains, tuple(gains))

    def test_long_numbers(self):
        for digits in ("1" * 60, "9" * 60, "-" + "9" * 60, "1" + "0" * 59):
            self.is_same(Row.read(digits).gains, (int(digits),))
            self.is_same(str(Row.read("0 " + digits)), "0 " + digits)
        for digits in ("1" + "0" * 60, "-1" + "0" * 60):
            self.is_same(str(Row([int(digits)])), digits)
            self.refuses(BadText(0, 1), Row.read, "3 " + digits)
        self.is_same(str(Row([-HUGE - 7, 10 ** 120, 10 ** 60, 10 ** 60 - 1])), " ".join(
            ("-1" + "0" * 4999 + "7", "1" + "0" * 120, "1" + "0" * 60, "9" * 60)))

    def test_what_is_no_text(self):
        for value in NO_STRINGS + (Row([1]),):
            self.refuses(BadText(0, 0), Row.read, value)

    def test_items_that_cannot_stand(self):
        self.bends(Row.read, "5", [NO_NUMBER_ITEMS])
        self.bends(Row.read, "1 -20 0 -3", [NO_NUMBER_ITEMS] * 4)
        for text, item in (
                ("", 0), (" ", 0), (" 1", 0), ("1 ", 1), ("1  2", 1), ("1 2 ", 2), ("1,2", 0), ("1\n2", 0), ("1 x y", 1),
                ("1 2\n", 1), ("1\t2 3", 0)):
            self.refuses(BadText(0, item), Row.read, text)

    def test_items_too_many(self):
        self.assertEqual(Row.read(" ".join(["1"] * 48)).days, 48)
        for days in (49, 50, 90):
            self.refuses(BadText(0, 48), Row.read, " ".join(["1"] * days))
        self.refuses(BadText(0, 48), Row.read, " ".join(["1"] * 48) + " x")
        self.refuses(BadText(0, 48), Row.read, " ".join(["1"] * 48) + " ")
        self.refuses(BadText(0, 47), Row.read, " ".join(["1"] * 47 + ["x"] * 9))
        self.refuses(BadText(0, 0), Row.read, "1" * 20000)

    def test_texts_behind_other_items(self):
        items = "row a 1 -2".split(" ")
        self.is_same(row_at(items, 2), Row([1, -2]))
        self.refuses(BadText(0, 1), row_at, items, 1)
        self.refuses(BadText(0, 4), row_at, items, 4)
        self.refuses(BadText(0, 50), row_at, ["row", "a"] + ["1"] * 49, 2)
        self.is_same(row_at(["row", "a"] + ["1"] * 48, 2), Row([1] * 48))
