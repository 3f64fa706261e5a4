"""Sums of all stretches of a length, and the sorts that they give."""

from anyseven.checks import need_number
from anyseven.rows import need_row


def sums(row, length):
    """The tuple of the sums of all stretches of this length, by their begins."""
    need_row(row, "row")
    need_number(length, "length", 1, row.days)
    return tuple([row.sum_of(begin, length) for begin in range(row.days - length + 1)])


def sort_of(row, length):
    """The word of the sort of this length."""
    return word_of(sums(row, length))


def word_of(found):
    """The word of the sort of a length with these sums."""
    least = min(found)
    greatest = max(found)
    if least > 0:
        return "gains"
    if greatest < 0:
        return "loses"
    return "flat" if least == 0 and greatest == 0 else "mixed"


def table_words(row):
    """The tuple of the words of all lengths, from 1 on."""
    need_row(row, "row")
    return tuple([sort_of(row, length) for length in range(1, row.days + 1)])


def least_sum(row, length):
    """The pair of the least sum of this length and the first begin that has it."""
    found = sums(row, length)
    least = min(found)
    return least, found.index(least)


def greatest_sum(row, length):
    """The pair of the greatest sum of this length and the first begin that has it."""
    found = sums(row, length)
    greatest = max(found)
    return greatest, found.index(greatest)
