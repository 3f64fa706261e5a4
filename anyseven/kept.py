"""A row that keeps a book, or a ring of steps that shows that none does."""

from anyseven.books import need_book
from anyseven.errors import BadPaper, Misfit
from anyseven.papers import Denial, Paper
from anyseven.rows import Row, gains_of, need_row
from anyseven.ways import least_costs, links_of, way_of


class Kept(Paper):
    """A row that keeps the book."""

    def __init__(self, row):
        super().__init__("kept", row)
        self.row = self.parts[0]


class Ring(Denial):
    """A ring of steps of the book that costs less than 0."""

    def __init__(self, steps):
        super().__init__("ring", steps)
        self.steps = self.parts[0]


def kept(book):
    """The Kept of a row that keeps the book, or the Ring that shows that none does."""
    need_book(book, "book")
    costs, ring = least_costs(book.days + 1, links_of(book))
    if ring is not None:
        return Ring(ring)
    return Kept(Row(gains_of(costs)))


def cost_of(book, steps):
    """The cost of a way."""
    need_book(book, "book")
    way = way_of(book, steps)
    if way is None:
        raise BadPaper("steps")
    return way[2]


def upper(one, other):
    """The Row with the greater height of both at each place."""
    need_rows_alike(one, other)
    return Row(gains_of([max(pair) for pair in zip(one.heights, other.heights)]))


def lower(one, other):
    """The Row with the lesser height of both at each place."""
    need_rows_alike(one, other)
    return Row(gains_of([min(pair) for pair in zip(one.heights, other.heights)]))


def need_rows_alike(one, other):
    """Raises BadRow for what is no Row, Misfit for two of unlike days."""
    need_row(one, "one")
    need_row(other, "other")
    if one.days != other.days:
        raise Misfit("days")
