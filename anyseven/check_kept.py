"""Which papers of rows and rings are right."""

from anyseven.books import is_row_of, need_book, need_rule_number
from anyseven.checks import is_within
from anyseven.kept import Kept, Ring
from anyseven.loosened import Loosened, NeverKept, book_loosened
from anyseven.ways import is_low_ring


def shows_kept(book, value):
    """Whether it is a right Kept, or a right Ring, of the book."""
    need_book(book, "book")
    if type(value) is Kept:
        return is_row_of(book, value.row)
    return type(value) is Ring and is_low_ring(book, value.steps)


def shows_loosened(book, number, value):
    """Whether it is a right Loosened, or a right NeverKept, of this rule of the book."""
    need_book(book, "book")
    need_rule_number(book, number)
    if type(value) is Loosened:
        return is_least(book, number, value)
    if type(value) is not NeverKept or not is_low_ring(book, value.ring):
        return False
    return all([step[1] != number for step in value.ring])


def is_least(book, number, paper):
    """Whether the row of a Loosened shows that its integer is enough, its ring that no less is."""
    if not is_within(paper.by, 0, None) or not is_row_of(book_loosened(book, number, paper.by), paper.row):
        return False
    if paper.by == 0:
        return paper.ring is None
    return is_low_ring(book_loosened(book, number, paper.by - 1), paper.ring)
