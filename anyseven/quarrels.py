"""The fewest rules of a book that cannot be kept together."""

from itertools import combinations

from anyseven.books import Book, need_book
from anyseven.errors import TooMany
from anyseven.kept import kept

QUARREL_DAYS = 24


def quarrels(book):
    """The tuple of all quarrels of the book, those with fewer rules first, then as tuples."""
    need_book(book, "book")
    if book.days > QUARREL_DAYS:
        raise TooMany("days", QUARREL_DAYS)
    if kept(book):
        return ()
    found = []
    # One rule alone is always kept.
    for many in range(2, len(book.rules) + 1):
        for numbers in combinations(range(len(book.rules)), many):
            if not holds_any(numbers, found) and not kept(book_of(book, numbers)):
                found.append(numbers)
    return tuple(found)


def holds_any(numbers, lots):
    """Whether all of one of these lots are among the numbers."""
    return any([all([number in numbers for number in lot]) for lot in lots])


def book_of(book, numbers):
    """The Book of the rules with these numbers."""
    return Book(book.days, [book.rules[number] for number in numbers])
