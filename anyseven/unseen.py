"""Whether some row keeps a saying book, and what is always so, never, or open in such rows."""

from anyseven.choices import (
    contrary_choices, many_of_contrary, many_together, need_few_choices, saying_choices, together)
from anyseven.errors import Impossible
from anyseven.papers import Denial, Paper
from anyseven.rows import Row, gains_of
from anyseven.sayingbooks import need_saying_book
from anyseven.sayings import need_fitting, need_saying
from anyseven.ways import least_costs


class Found(Paper):
    """A row that keeps the book."""

    def __init__(self, row):
        super().__init__("found", row)
        self.row = self.parts[0]


class Barred(Denial):
    """A ring of each choice of the book."""

    def __init__(self, rings):
        super().__init__("barred", rings)
        self.rings = self.parts[0]


class Always(Paper):
    """A ring of each choice of the book with one of the contrary behind."""

    def __init__(self, rings):
        super().__init__("always", rings)
        self.rings = self.parts[0]


class Never(Denial):
    """A ring of each choice of the book with one of the saying behind."""

    def __init__(self, rings):
        super().__init__("never", rings)
        self.rings = self.parts[0]


class Open(Paper):
    """A row that keeps the book and the saying, and one that keeps the book and not the saying."""

    def __init__(self, one, other):
        super().__init__("open", one, other)
        self.one = self.parts[0]
        self.other = self.parts[1]


def some_row(book):
    """The Found of a row that keeps the book, or the Barred that shows that none does."""
    need_countable_book(book)
    row, rings = row_or_rings(book.days, choice_lists(book))
    return Found(row) if rings is None else Barred(rings)


def judged(book, saying):
    """The Always, the Never or the Open of a saying, by the book."""
    need_judged(book, saying)
    paper = some_row(book)
    if not paper:
        raise Impossible(paper)
    lists = choice_lists(book)
    one, rings = row_or_rings(book.days, lists + [saying_choices(book.days, saying)])
    if rings is not None:
        return Never(rings)
    other, rings = row_or_rings(book.days, lists + [contrary_choices(book.days, saying)])
    return Open(one, other) if rings is None else Always(rings)


def choice_lists(book):
    """The list of the lists of the choices of each saying of the book."""
    return [saying_choices(book.days, saying) for saying in book.sayings]


def row_or_rings(days, lists):
    """The pair of a Row that keeps a choice of each of these lists, and None; or of None and a ring of each choice."""
    rings = []
    for choice in together(lists):
        costs, ring = least_costs(days + 1, links_of_choice(choice))
        if ring is None:
            return Row(gains_of(costs)), None
        rings.append(ring)
    return None, rings


def links_of_choice(choice):
    """The list of all steps of a choice of a book, each as its begin, its end, its cost and itself."""
    links = []
    for number, stretches in enumerate(choice):
        for begin, length, low, high in stretches:
            end = begin + length
            if high is not None:
                links.append((begin, end, high, (begin, number, 1)))
            if low is not None:
                links.append((end, begin, -low, (end, number, -1)))
    return links


def need_countable_book(book):
    """Raises BadBook for no SayingBook, TooMany for one with more choices than are gone through."""
    need_saying_book(book, "book")
    need_few_choices(many_together(book.days, book.sayings))


def need_judged(book, saying):
    """Raises what is told of a book and of a saying that is judged by it."""
    need_saying_book(book, "book")
    need_saying(saying, "saying")
    need_fitting(saying, book.days)
    need_countable_book(book)
    need_few_choices(many_together(book.days, book.sayings + (saying,)))
    need_few_choices(many_together(book.days, book.sayings) * many_of_contrary(book.days, saying))
