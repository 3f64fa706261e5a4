"""Points 2, 5 and 15: sayings of all classes, made, refused, kept, turned, told and read."""

import random
from itertools import product

from anyseven.errors import BadNumber, BadRow, BadSaying, BadText, Misfit
from anyseven.level_stretches import sum_begins
from anyseven.papers import Paper
from anyseven.rows import Row
from anyseven.rules import Rule
from anyseven.sayings import Just, Some, Told, read_saying, saying_text
from tests.anew_sayings import keeps, made, some_saying, told
from tests.support import NO_INTEGERS, NO_NUMBER_ITEMS, NO_STRINGS, OTHER, Case
from tests.test_rows import NO_ROWS

HUGE = 10 ** 5000
NO_BOUND_VALUES = tuple(value for value in NO_INTEGERS if value is not None)
PAIRS = ((0, None), (None, 0), (1, None), (None, -1), (-4, 5), (2, 2), (0, 0), (-HUGE, HUGE))
NO_SAYINGS = (
    True, False, None, 0, 3, "any 3 1 -", "some 3 1 -", [3, 1, None], (3, 1), {}, OTHER, Some, Rule, Row([1]), Paper("some", 3, 1, None))
NO_BOUND_ITEMS = tuple(item for item in NO_NUMBER_ITEMS if item != "-")
NO_LENGTH_ITEMS = NO_NUMBER_ITEMS + ("0", "49", "-1", "100")
NO_BEGIN_ITEMS = NO_NUMBER_ITEMS + ("48", "49", "-1", "100")
NO_WORDS = ("", "-", "anything", "Any", "every", "so", "some\n", "somE", "1", ":", "/")


def some_rows(chance, days, count=12, most=3):
    for _ in range(count):
        yield [chance.randint(-most, most) for _ in range(days)]


class Made(Case):

    def test_attributes(self):
        for length in (1, 2, 7, 47, 48):
            for low, high in PAIRS:
                for saying in (Some(length, low, high), Some(high=high, length=length, low=low)):
                    self.is_same((saying.length, saying.low, saying.high), (length, low, high))
                for begin in (0, 1, 46, 47):
                    for saying in (Told(begin, length, low, high), Told(high=high, low=low, length=length, begin=begin)):
                        self.is_same((saying.begin, saying.length, saying.low, saying.high), (begin, length, low, high))
            for number in (-HUGE, -1, 0, 1, HUGE):
                for saying in (Just(length, number), Just(number=number, length=length)):
                    self.is_same((saying.length, saying.number), (length, number))
        self.is_same((Some(7, 1).low, Some(7, 1).high, Some(7, high=1).low), (1, None, None))
        self.is_same((Told(0, 7, 1).low, Told(0, 7, 1).high, Told(0, 7, high=1).low), (1, None, None))

    def test_numbers_that_are_refused(self):
        for value in NO_INTEGERS + (0, -1, 49, HUGE):
            self.refuses(BadNumber("length"), Some, value, 1)
            self.refuses(BadNumber("length"), Some, value, "1", "2")
            self.refuses(BadNumber("length"), Just, value, 1)
            self.refuses(BadNumber("length"), Just, value, None)
            self.refuses(BadNumber("length"), Told, 0, value, 1)
            self.refuses(BadNumber("length"), Told, 0, value, "1", "2")
        for value in NO_INTEGERS + (-1, 48, 49, HUGE):
            self.refuses(BadNumber("begin"), Told, value, 1, 1)
            self.refuses(BadNumber("begin"), Told, value, None, None, None)
        for value in NO_BOUND_VALUES:
            self.refuses(BadNumber("low"), Some, 3, value)
            self.refuses(BadNumber("low"), Some, 3, value, value)
            self.refuses(BadNumber("high"), Some, 3, None, value)
            self.refuses(BadNumber("high"), Some, 3, 1, value)
            self.refuses(BadNumber("low"), Told, 0, 3, value, value)
            self.refuses(BadNumber("high"), Told, 0, 3, 1, value)
            self.refuses(BadNumber("high"), Told, 0, 3, high=value)
        for value in NO_INTEGERS:
            self.refuses(BadNumber("number"), Just, 3, value)
            self.refuses(BadNumber("number"), Just, number=value, length=48)

    def test_bounds_that_leave_nothing(self):
        for low, high in ((None, None), (1, 0), (-1, -2), (HUGE, -HUGE)):
            self.refuses(BadSaying("bounds"), Some, 3, low, high)
            self.refuses(BadSaying("bounds"), Told, 0, 3, low, high)
            self.refuses(BadNumber("length"), Some, 0, low, high)
            self.refuses(BadNumber("begin"), Told, 48, 49, low, high)
        self.refuses(BadSaying("bounds"), Some, 3)
        self.refuses(BadSaying("bounds"), Told, 47, 48)

    def test_equal_sayings(self):
        for one, other in (
                (Some(2, 1), Some(2, 1, None)), (Just(2, 1), Just(2, 1)), (Told(0, 2, None, 1), Told(0, 2, high=1)), (Some(1, 0, 0), Some(1, 0, 0))):
            self.is_same(one == other, True)
            self.is_same(one != other, False)
        self.differs(Some(2, 1, 3), [Some(3, 1, 3), Some(2, 0, 3), Some(2, 1, 4), Some(2, 1), Rule(2, 1, 3), Just(2, 1), Told(0, 2, 1, 3),
            None, "some 2 1 3"])
        self.differs(Just(2, 1), [Just(3, 1), Just(2, 2), Some(2, 1), Rule(2, 1), Some(2, 1, 1), Told(0, 2, 1, 1), (2, 1), OTHER])
        self.differs(Told(1, 2, 0, 3), [
            Told(0, 2, 0, 3), Told(1, 3, 0, 3), Told(1, 2, 1, 3), Told(1, 2, 0, 2), Told(1, 2, 0), Told(1, 2, None, 3), Some(2, 0, 3), Rule(2, 0, 3)])


class Kept(Case):

    def test_all_short_rows(self):
        chance = random.Random(871)
        seen = {}
        for days in (1, 2, 3, 4):
            sayings = [some_saying(chance, days) for _ in range(60)]
            for gains in product((-1, 0, 2), repeat=days):
                for saying in sayings:
                    right = keeps(gains, saying)
                    self.is_same(made(saying).keeps(Row(gains)), right)
                    seen[saying[0], right] = seen.get((saying[0], right), 0) + 1
        self.is_same(len(seen), 8)
        self.assertGreater(min(seen.values()), 100)

    def test_longer_rows(self):
        chance = random.Random(872)
        for days in (5, 12, 24, 48):
            for gains in some_rows(chance, days):
                for _ in range(20):
                    saying = some_saying(chance, days)
                    self.is_same(made(saying).keeps(row=Row(gains)), keeps(gains, saying))

    def test_stretches_begun_within_days(self):
        # A row keeps a just exactly if a stretch from some moment on has this sum.
        chance = random.Random(873)
        for days in (1, 2, 5, 9):
            for gains in some_rows(chance, days):
                for length in range(1, days + 1):
                    for number in range(-6, 7):
                        had = sum_begins(Row(gains), (length, 1), (number, 1)) != ()
                        self.is_same(Just(length, number).keeps(Row(gains)), had)

    def test_longer_lengths_than_the_row(self):
        for length in (3, 4, 48):
            self.is_same([saying.keeps(Row([0, 0])) for saying in (Some(length, -9, 9), Just(length, 0), Rule(length, 5))], [False, False, True])

    def test_rows_without_the_stretch(self):
        for begin, length in ((0, 3), (1, 2), (2, 1), (47, 1), (0, 48)):
            self.refuses(Misfit("days"), Told(begin, length, 0).keeps, Row([0, 0]))
        self.is_same([Told(begin, length, 0).keeps(Row([0, 0])) for begin, length in ((0, 1), (1, 1), (0, 2))], [True] * 3)
        self.is_same(Told(47, 1, 0).keeps(Row([0] * 48)), True)
        self.is_same(Told(0, 48, 1).keeps(Row([0] * 48)), False)

    def test_no_rows(self):
        for saying in (Some(1, 0), Just(1, 0), Told(0, 1, 0), Told(47, 48, 0), Some(48, 0), Just(48, 0), Rule(1, 0)):
            for value in NO_ROWS:
                self.refuses(BadRow("row"), saying.keeps, value)
                self.refuses(BadRow("row"), saying.keeps, row=value)


class Turned(Case):

    def test_each_class(self):
        self.is_same(told(Some(2, 3).turned()), ("some", 2, None, -3))
        self.is_same(told(Some(2, None, 3).turned()), ("some", 2, -3, None))
        self.is_same(told(Some(2, -1, 3).turned()), ("some", 2, -3, 1))
        self.is_same(told(Just(4, 7).turned()), ("just", 4, -7))
        self.is_same(told(Just(4, 0).turned()), ("just", 4, 0))
        self.is_same(told(Told(5, 2, -1, 3).turned()), ("told", 5, 2, -3, 1))
        self.is_same(told(Told(5, 2, 3).turned()), ("told", 5, 2, None, -3))

    def test_rows_times_minus_1(self):
        chance = random.Random(874)
        for days in (1, 3, 6):
            for _ in range(60):
                saying = made(some_saying(chance, days))
                self.is_same(saying.turned().turned(), saying)
                for gains in some_rows(chance, days, 6):
                    self.is_same(saying.turned().keeps(Row(gains).times(-1)), saying.keeps(Row(gains)))

    def test_backwards(self):
        chance = random.Random(875)
        for days in (1, 3, 6):
            for _ in range(60):
                saying = made(some_saying(chance, days, kinds="any some just"))
                for gains in some_rows(chance, days, 6):
                    self.is_same(saying.keeps(Row(gains).backwards()), saying.keeps(Row(gains)))


class Texts(Case):

    def test_texts(self):
        for saying, text in (
                (Rule(7, None, -1), "any 7 - -1"), (Some(2, 3), "some 2 3 -"), (Some(48, -3, 3), "some 48 -3 3"), (Just(4, -7), "just 4 -7"),
                (Just(1, 0), "just 1 0"), (Told(2, 3, None, 5), "told 2 3 - 5"), (Told(47, 48, -1), "told 47 48 -1 -")):
            self.is_same(saying_text(saying), text)
            self.is_same(saying_text(saying=saying), text)
            self.is_same(read_saying(text), saying)
            self.is_same(read_saying(text=text) == saying, True)
            if type(saying) is not Rule:
                self.is_same(str(saying), text)
                self.is_same(type(saying).read(text), saying)
                self.is_same(type(saying).read(text=text), saying)

    def test_any_sayings(self):
        chance = random.Random(876)
        for _ in range(300):
            saying = made(some_saying(chance, chance.randint(1, 47), chance.randint(-9, 9), 30))
            text = saying_text(saying)
            self.is_same(text, " ".join("-" if part is None else str(part) for part in told(saying)))
            self.is_same(read_saying(text), saying)

    def test_long_numbers(self):
        for digits in ("9" * 60, "-" + "9" * 60):
            self.is_same(Just.read("just 1 " + digits).number, int(digits))
            self.is_same(Some.read("some 1 " + digits + " -").low, int(digits))
        self.refuses(BadText(0, 2), Just.read, "just 1 1" + "0" * 60)
        self.refuses(BadText(0, 4), read_saying, "told 0 1 - 1" + "0" * 60)
        self.is_same(saying_text(Just(1, -HUGE)), "just 1 -1" + "0" * 5000)
        self.is_same(saying_text(Told(0, 1, -HUGE, HUGE)), "told 0 1 -1" + "0" * 5000 + " 1" + "0" * 5000)

    def test_each_item_bent(self):
        bounds = NO_BOUND_ITEMS
        self.bends(Some.read, "some 3 -1 2", [NO_WORDS + ("any", "just", "told"), NO_LENGTH_ITEMS, bounds, bounds + ("-2", "-9")])
        self.bends(Some.read, "some 3 - 2", [NO_WORDS, NO_LENGTH_ITEMS, bounds, bounds + ("-",)])
        self.bends(Just.read, "just 48 0", [NO_WORDS + ("any", "some", "told"), NO_LENGTH_ITEMS, NO_NUMBER_ITEMS])
        self.bends(Told.read, "told 47 48 5 -", [NO_WORDS + ("any", "some", "just"), NO_BEGIN_ITEMS, NO_LENGTH_ITEMS, bounds, bounds + ("4",)])
        self.bends(Told.read, "told 0 1 - 5", [NO_WORDS, NO_BEGIN_ITEMS, NO_LENGTH_ITEMS, bounds, bounds + ("-",)])

    def test_each_item_bent_of_any_saying(self):
        bounds = NO_BOUND_ITEMS
        for text, wrong in (
                ("any 3 -1 2", [NO_WORDS, NO_LENGTH_ITEMS, bounds, bounds + ("-2",)]), ("some 3 -1 2", [NO_WORDS, NO_LENGTH_ITEMS, bounds,
                bounds + ("-2",)]),
                ("just 3 7", [NO_WORDS, NO_LENGTH_ITEMS, NO_NUMBER_ITEMS]),
                ("told 1 3 -1 2", [NO_WORDS, NO_BEGIN_ITEMS, NO_LENGTH_ITEMS, bounds, bounds + ("-2",)])):
            self.bends(lambda some: Shown(read_saying(some)), text, wrong)

    def test_items_missing_and_too_many(self):
        for read, text in (
                (read_saying, "any 3 1 -"), (read_saying, "some 3 1 -"), (read_saying, "just 3 1"), (read_saying, "told 0 3 1 -"),
                (Some.read, "some 3 1 -"),
                (Just.read, "just 3 1"), (Told.read, "told 0 3 1 -")):
            items = text.split(" ")
            for many in range(1, len(items)):
                self.refuses(BadText(0, many), read, " ".join(items[:many]))
            for more in (" ", " 1", " x", " /", " / any 3 1 -", " -"):
                self.refuses(BadText(0, len(items)), read, text + more)
            self.refuses(BadText(0, 0), read, " " + text)
            self.refuses(BadText(0, 1), read, text.replace(" ", "  ", 1))
        for read in (read_saying, Some.read, Just.read, Told.read):
            self.refuses(BadText(0, 0), read, "")
            for value in NO_STRINGS + (Some(1, 1), Rule(1, 1)):
                self.refuses(BadText(0, 0), read, value)

    def test_what_is_no_saying(self):
        for value in NO_SAYINGS:
            self.refuses(BadSaying("saying"), saying_text, value)
            self.refuses(BadSaying("saying"), saying_text, saying=value)


class Shown:
    """A saying with its text as str, so that rules are told as sayings, too."""

    def __init__(self, saying):
        self.saying = saying

    def __str__(self):
        return saying_text(self.saying)
