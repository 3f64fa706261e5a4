"""Sayings: what is told of an unseen row."""

from anyseven.checks import are_bounds, is_within, need_bound, need_number
from anyseven.errors import BadSaying, BadText, Misfit
from anyseven.rows import MOST_DAYS, need_row
from anyseven.rules import MOST_LENGTH, Rule, contrary, rule_at
from anyseven.sorts import sums
from anyseven.texts import bound_text, bounds_at, item_at, items_of, need_end, need_item, number_at, number_text

# How many items the text of a saying has that begins with this one.
ITEMS = {"any": 4, "some": 4, "just": 3, "told": 5}


class Some:
    """Some stretch of a length has a sum within the bounds."""

    def __init__(self, length, low=None, high=None):
        need_number(length, "length", 1, MOST_LENGTH)
        need_bounds(low, high)
        self.length = length
        self.low = low
        self.high = high

    def __eq__(self, other):
        if not isinstance(other, Some):
            return False
        return self.length == other.length and self.low == other.low and self.high == other.high

    def __str__(self):
        return f"some {self.length} {bound_text(self.low)} {bound_text(self.high)}"

    def keeps(self, row):
        """Whether it is so in the row."""
        return any([is_within(brought, self.low, self.high) for brought in sums_of(row, self.length)])

    def turned(self):
        """The Some for the rows times -1."""
        return Some(self.length, contrary(self.high), contrary(self.low))

    @staticmethod
    def read(text):
        """The Some of this text."""
        return read_of(text, "some")


class Just:
    """Some stretch of a length, perhaps begun within a day, has just this sum."""

    def __init__(self, length, number):
        need_number(length, "length", 1, MOST_LENGTH)
        need_number(number, "number")
        self.length = length
        self.number = number

    def __eq__(self, other):
        return isinstance(other, Just) and self.length == other.length and self.number == other.number

    def __str__(self):
        return f"just {self.length} {number_text(self.number)}"

    def keeps(self, row):
        """Whether it is so in the row."""
        # From one begin to the next one the sum goes evenly.
        found = sums_of(row, self.length)
        return len(found) > 0 and min(found) <= self.number <= max(found)

    def turned(self):
        """The Just for the rows times -1."""
        return Just(self.length, -self.number)

    @staticmethod
    def read(text):
        """The Just of this text."""
        return read_of(text, "just")


class Told:
    """The stretch of a length that begins at a day has a sum within the bounds."""

    def __init__(self, begin, length, low=None, high=None):
        need_number(begin, "begin", 0, MOST_DAYS - 1)
        need_number(length, "length", 1, MOST_LENGTH)
        need_bounds(low, high)
        self.begin = begin
        self.length = length
        self.low = low
        self.high = high

    def __eq__(self, other):
        if not isinstance(other, Told) or self.begin != other.begin:
            return False
        return self.length == other.length and self.low == other.low and self.high == other.high

    def __str__(self):
        return f"told {self.begin} {self.length} {bound_text(self.low)} {bound_text(self.high)}"

    def keeps(self, row):
        """Whether it is so in the row, which must have the stretch."""
        need_row(row, "row")
        need_fitting(self, row.days)
        return is_within(row.sum_of(self.begin, self.length), self.low, self.high)

    def turned(self):
        """The Told for the rows times -1."""
        return Told(self.begin, self.length, contrary(self.high), contrary(self.low))

    @staticmethod
    def read(text):
        """The Told of this text."""
        return read_of(text, "told")


def saying_text(saying):
    """The text of any saying."""
    need_saying(saying, "saying")
    return "any " + str(saying) if isinstance(saying, Rule) else str(saying)


def read_saying(text):
    """The saying of this text."""
    items = items_of(text)
    saying = saying_at(items, 0)
    need_end(items, ITEMS[items[0]])
    return saying


def read_of(text, word):
    """The saying of this text, which begins with this word."""
    need_item(items_of(text), 0, word)
    return read_saying(text)


def saying_at(items, at, days=None):
    """The saying whose text is the items from there on; a told stretch is within so many days, if these are told."""
    word = item_at(items, at)
    if word == "any":
        return rule_at(items, at + 1)
    if word == "some":
        length = number_at(items, at + 1, 1, MOST_LENGTH)
        low, high = bounds_at(items, at + 2)
        return Some(length, low, high)
    if word == "just":
        return Just(number_at(items, at + 1, 1, MOST_LENGTH), number_at(items, at + 2))
    if word == "told":
        begin = number_at(items, at + 1, 0, MOST_DAYS - 1 if days is None else days - 1)
        length = number_at(items, at + 2, 1, MOST_LENGTH if days is None else days - begin)
        low, high = bounds_at(items, at + 3)
        return Told(begin, length, low, high)
    raise BadText(0, at)


def sums_of(row, length):
    """The sums of all stretches of the row of this length; of a longer one than the row there are none."""
    need_row(row, "row")
    return sums(row, length) if length <= row.days else ()


def is_saying(value):
    """Whether it is a saying."""
    return isinstance(value, (Rule, Some, Just, Told))


def need_bounds(low, high):
    """Raises BadNumber for what is no bound, BadSaying for two that leave no sum, or tell nothing."""
    need_bound(low, "low")
    need_bound(high, "high")
    if not are_bounds(low, high):
        raise BadSaying("bounds")


def need_saying(value, part):
    """Raises BadSaying for what is no saying."""
    if not is_saying(value):
        raise BadSaying(part)


def need_fitting(saying, days):
    """Raises Misfit for a Told whose stretch goes beyond so many days."""
    if isinstance(saying, Told) and saying.begin + saying.length > days:
        raise Misfit("days")
