"""Rows: days, each with a gain."""

from anyseven.checks import are_integers, need_number
from anyseven.errors import BadNumber, BadRow, Misfit, TooMany
from anyseven.texts import item_at, items_of, need_end, number_at, number_text

MOST_DAYS = 48


class Row:
    """A row of 1 to 48 days."""

    def __init__(self, gains):
        if not are_integers(gains) or len(gains) == 0:
            raise BadRow("gains")
        if len(gains) > MOST_DAYS:
            raise TooMany("days", MOST_DAYS)
        self.gains = tuple(gains)
        self.heights = heights_of(gains)
        self.days = len(gains)
        self.total = self.heights[-1]

    def __len__(self):
        return len(self.gains)

    def __eq__(self, other):
        return isinstance(other, Row) and self.gains == other.gains

    def __str__(self):
        return " ".join([number_text(gain) for gain in self.gains])

    def sum_of(self, begin, length):
        """The sum of the stretch of this length from this day on."""
        self._need_stretch(begin, length)
        return self.heights[begin + length] - self.heights[begin]

    def part(self, begin, length):
        """The Row of the days of this stretch."""
        self._need_stretch(begin, length)
        return Row(self.gains[begin:begin + length])

    def _need_stretch(self, begin, length):
        need_number(begin, "begin", 0, self.days - 1)
        need_number(length, "length", 1, self.days - begin)

    def backwards(self):
        """The Row with the last day first."""
        return Row(self.gains[::-1])

    def times(self, number):
        """The Row with each gain times this integer."""
        need_number(number, "number")
        return Row([gain * number for gain in self.gains])

    def plus(self, number):
        """The Row with this integer put to each gain."""
        need_number(number, "number")
        return Row([gain + number for gain in self.gains])

    def joined(self, other):
        """The Row with the days of the other one behind."""
        need_row(other, "other")
        return Row(self.gains + other.gains)

    def added(self, other):
        """The Row with the gains of both, day by day."""
        need_row(other, "other")
        if self.days != other.days:
            raise Misfit("days")
        return Row([gain + more for gain, more in zip(self.gains, other.gains)])

    @staticmethod
    def of(heights):
        """The Row with these heights."""
        if not are_integers(heights) or len(heights) < 2 or heights[0] != 0:
            raise BadNumber("heights")
        return Row(gains_of(heights))

    @staticmethod
    def read(text):
        """The Row of this text."""
        return row_at(items_of(text), 0)


def heights_of(gains):
    """The heights of all places, the first of them 0."""
    heights = [0]
    for gain in gains:
        heights.append(heights[-1] + gain)
    return tuple(heights)


def gains_of(heights):
    """How much each height is above the one ahead of it."""
    return [heights[place + 1] - heights[place] for place in range(len(heights) - 1)]


def need_row(value, part):
    """Raises BadRow for what is no Row."""
    if not isinstance(value, Row):
        raise BadRow(part)


def row_at(items, at):
    """The Row whose text is all items from there on."""
    item_at(items, at)
    last = min(len(items), at + MOST_DAYS)
    gains = [number_at(items, place) for place in range(at, last)]
    need_end(items, last)
    return Row(gains)
