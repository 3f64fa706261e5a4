"""Amounts: how much of two things there is on each of some days."""

from anyseven.checks import are_integers, lowest, need_number
from anyseven.errors import BadAmounts, TooMany
from anyseven.moments import height_of
from anyseven.quotients import fraction_difference, fraction_sum, need_fraction
from anyseven.rows import Row
from anyseven.texts import items_of, need_end, need_item, number_at, number_text

MOST_AMOUNT_DAYS = 24


class Amounts:
    """For each of 1 to 24 days how much of a first and of a second thing there is on it."""

    def __init__(self, pairs):
        if not are_pairs(pairs) or 0 in totals_of(pairs):
            raise BadAmounts("pairs")
        need_few_days(len(pairs))
        self.pairs = tuple([tuple(pair) for pair in pairs])
        self.days = len(pairs)
        self.totals = totals_of(pairs)

    def __eq__(self, other):
        return isinstance(other, Amounts) and self.pairs == other.pairs

    def __str__(self):
        return " / ".join([f"{number_text(first)} {number_text(second)}" for first, second in self.pairs])

    def parts(self, first, last):
        """The pair of the parts of both totals that the stretch between two moments of the round has."""
        need_fraction(first, "first", (0, 1), (self.days, 1))
        need_fraction(last, "last", first, fraction_sum(first, (self.days, 1)))
        return tuple([part_between(self, thing, first, last) for thing in (0, 1)])

    def turned(self, by):
        """The Amounts of which each day has what the day so many days behind it had."""
        need_number(by, "by")
        first = by % self.days
        return Amounts(self.pairs[first:] + self.pairs[:first])

    def backwards(self):
        """The Amounts with the last day first."""
        return Amounts(self.pairs[::-1])

    def exchanged(self):
        """The Amounts with the second thing for the first one, and the first for the second."""
        return Amounts([(second, first) for first, second in self.pairs])

    def cut(self, parts):
        """The Amounts with each day so many times, one behind another."""
        need_number(parts, "parts", 1)
        need_few_days(self.days * parts)
        return Amounts([pair for pair in self.pairs for _ in range(parts)])

    @staticmethod
    def read(text):
        """The Amounts of this text."""
        items = items_of(text)
        pairs = [pair_at(items, 0)]
        while 3 * len(pairs) - 1 < len(items):
            ahead = 3 * len(pairs) - 1
            if len(pairs) == MOST_AMOUNT_DAYS:
                need_end(items, ahead)
            need_item(items, ahead, "/")
            pairs.append(pair_at(items, ahead + 1))
        if 0 in totals_of(pairs):
            need_end(items, len(items) - 1)
        return Amounts(pairs)


def are_pairs(value):
    """Whether it is a list of one or more pairs of integers from 0 on."""
    if not isinstance(value, (list, tuple)) or len(value) == 0:
        return False
    return all([are_integers(pair) and len(pair) == 2 and min(pair) >= 0 for pair in value])


def totals_of(pairs):
    """The pair of how much there is in all of the one thing and of the other."""
    return sum([pair[0] for pair in pairs]), sum([pair[1] for pair in pairs])


def pair_at(items, at):
    """The pair of integers from 0 on whose text is the two items from there on."""
    return number_at(items, at, 0), number_at(items, at + 1, 0)


def twice_round(amounts, thing):
    """The Row of what there is of one thing, 0 or 1, on each day of a round, and of the round behind it."""
    return Row([pair[thing] for pair in amounts.pairs] * 2)


def part_between(amounts, thing, first, last):
    """The part of the total of one thing that the stretch between two moments of the round has."""
    row = twice_round(amounts, thing)
    number, by = fraction_difference(height_of(row, last), height_of(row, first))
    return lowest(number, by * amounts.totals[thing])


def need_few_days(days):
    """Raises TooMany for more days than amounts are told of."""
    if days > MOST_AMOUNT_DAYS:
        raise TooMany("days", MOST_AMOUNT_DAYS)


def need_amounts(value, part):
    """Raises BadAmounts for what is no Amounts."""
    if not isinstance(value, Amounts):
        raise BadAmounts(part)
