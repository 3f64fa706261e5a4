"""Rules and books that tell which lengths gain and which lose."""

from anyseven.books import Book
from anyseven.checks import need_lengths, need_number
from anyseven.rows import MOST_DAYS
from anyseven.rules import MOST_LENGTH, Rule


def gaining(lengths):
    """The tuple of the rules that these lengths gain, ascending."""
    need_lengths(lengths, "lengths", MOST_LENGTH)
    return rules_of(lengths, 1, None)


def losing(lengths):
    """The tuple of the rules that these lengths lose, ascending."""
    need_lengths(lengths, "lengths", MOST_LENGTH)
    return rules_of(lengths, None, -1)


def sign_book(days, gaining, losing):
    """The Book in which some lengths gain and others lose."""
    need_number(days, "days", 1, MOST_DAYS)
    need_lengths(gaining, "gaining", MOST_LENGTH)
    need_lengths(losing, "losing", MOST_LENGTH)
    return Book(days, rules_of(gaining, 1, None) + rules_of(losing, None, -1))


def rules_of(lengths, low, high):
    """The tuple of the rules of these lengths with these bounds, ascending."""
    return tuple([Rule(length, low, high) for length in sorted(lengths)])
