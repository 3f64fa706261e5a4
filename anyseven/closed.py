"""Closed lots of lengths, and what lengths make."""

from anyseven.checks import are_ascending, are_integers, need_lengths, need_number
from anyseven.papers import Denial, Paper
from anyseven.rows import MOST_DAYS


class Closed(Paper):
    """The lot is closed."""

    def __init__(self):
        super().__init__("closed")


class NotClosed(Denial):
    """Two lengths that add up to the days, or to a length below them that is not told."""

    def __init__(self, one, other):
        super().__init__("notclosed", one, other)
        self.one = self.parts[0]
        self.other = self.parts[1]


class Closure(Paper):
    """All lengths below the days that some lengths make."""

    def __init__(self, lengths):
        super().__init__("closure", lengths)
        self.lengths = self.parts[0]


class Makes(Denial):
    """Pairs of lengths and how often they are taken to make the days."""

    def __init__(self, counts):
        super().__init__("makes", counts)
        self.counts = self.parts[0]


def closed(days, lengths):
    """The Closed of the lengths, or the NotClosed of the least pair that shows that they are not."""
    need_lot(days, lengths)
    lot = sorted(lengths)
    for at, one in enumerate(lot):
        for other in lot[at:]:
            if not is_sum_within(days, lot, one + other):
                return NotClosed(one, other)
    return Closed()


def is_sum_within(days, lot, number):
    """Whether two lengths of a closed lot can add up to this number."""
    return number > days or (number < days and number in lot)


def closure(days, lengths):
    """The Makes of the lengths if they make the days, otherwise their Closure."""
    need_lot(days, lengths)
    last = last_lengths(days, lengths)
    if days in last:
        return Makes(counts_of(last, days))
    return Closure(sorted(last))


def last_lengths(most, lengths):
    """A dict with each number up to most that the lengths make, and a length to take for it last."""
    last = {}
    for number in range(1, most + 1):
        for length in sorted(lengths):
            if number == length or number - length in last:
                last[number] = length
    return last


def counts_of(last, number):
    """The pairs of the lengths that make the number and how often they are taken, ascending."""
    counts = {}
    while number > 0:
        length = last[number]
        counts[length] = counts.get(length, 0) + 1
        number -= length
    return sorted(counts.items())


def are_counts(counts, lengths, number):
    """Whether it is ascending pairs of these lengths and how often they are taken to make the number."""
    if not isinstance(counts, (list, tuple)) or not all([are_integers(pair) and len(pair) == 2 for pair in counts]):
        return False
    if not are_ascending([length for length, _ in counts], None, None):
        return False
    if not all([length in lengths and many > 0 for length, many in counts]):
        return False
    return sum([length * many for length, many in counts]) == number


def need_lot(days, lengths):
    """Raises what is told of lengths that are below some days."""
    need_number(days, "days", 1, MOST_DAYS)
    need_lengths(lengths, "lengths", days - 1)
