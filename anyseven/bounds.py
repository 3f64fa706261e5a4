"""The greatest and the least sum of a stretch, and of any stretch of a length, in rows that keep a book."""

from anyseven.books import need_book
from anyseven.checks import need_number
from anyseven.errors import Impossible
from anyseven.kept import kept
from anyseven.papers import Denial, Paper
from anyseven.rows import Row, gains_of
from anyseven.ways import least_ways, links_by_begin, links_of, way_to


class Bound(Paper):
    """The greatest, or the least, sum of a stretch, a way that no sum goes beyond, and a row that has it."""

    def __init__(self, number, way, row):
        super().__init__("bound", number, way, row)
        self.number = self.parts[0]
        self.way = self.parts[1]
        self.row = self.parts[2]


class Unbound(Denial):
    """Places out of which no step leads, one end of the stretch among them: it has no such sum."""

    def __init__(self, places):
        super().__init__("unbound", places)
        self.places = self.parts[0]


class AnyBound(Paper):
    """The greatest, or the least, sum of any stretch of a length, where it is had, and a way for each stretch."""

    def __init__(self, number, begin, row, ways):
        super().__init__("anybound", number, begin, row, ways)
        self.number = self.parts[0]
        self.begin = self.parts[1]
        self.row = self.parts[2]
        self.ways = self.parts[3]


class AnyUnbound(Denial):
    """A stretch that has no such sum, and the places that show it."""

    def __init__(self, begin, places):
        super().__init__("anyunbound", begin, places)
        self.begin = self.parts[0]
        self.places = self.parts[1]


class Ground:
    """A kept book, made ready for ways: the steps from each place, and the heights of a row that keeps it."""

    def __init__(self, book, row):
        self.heights = row.heights
        self.outs = links_by_begin(book.days + 1, links_of(book))

    def ways_from(self, start):
        """The pair of the least costs of ways from a place, and the links by which they come."""
        return least_ways(self.outs, self.heights, start)

    def row_of(self, costs, raised=0):
        """The Row in which each place to which ways come is as high as they cost.

        All others are as high as in the row of old, and higher by one number, at least this one.
        """
        inward = [link for outs in self.outs for link in outs if link[0] not in costs and link[1] in costs]
        more = max([costs[end] - self.heights[begin] - cost for begin, end, cost, _ in inward] + [raised])
        return Row(gains_of([costs.get(place, height + more) for place, height in enumerate(self.heights)]))


def greatest(book, begin, length):
    """The Bound of the greatest sum of a stretch, or the Unbound if it has none."""
    need_stretch_of(book, begin, length)
    return bound_of(ground_of(book), begin, begin + length, 1)


def least(book, begin, length):
    """The Bound of the least sum of a stretch, or the Unbound if it has none."""
    need_stretch_of(book, begin, length)
    return bound_of(ground_of(book), begin + length, begin, -1)


def any_greatest(book, length):
    """The AnyBound of the greatest sum of any stretch of a length, or the AnyUnbound if there is none."""
    need_length_of(book, length)
    begins = range(book.days - length + 1)
    return any_bound_of(ground_of(book), [(begin, begin + length) for begin in begins], 1)


def any_least(book, length):
    """The AnyBound of the least sum of any stretch of a length, or the AnyUnbound if there is none."""
    need_length_of(book, length)
    begins = range(book.days - length + 1)
    return any_bound_of(ground_of(book), [(begin + length, begin) for begin in begins], -1)


def bound_of(ground, start, last, sign):
    """The Bound by the least ways from one place to another one, or the Unbound; greatest sums have the sign 1."""
    costs, came = ground.ways_from(start)
    if last not in costs:
        return Unbound(sorted(costs))
    return Bound(sign * costs[last], way_to(came, last), ground.row_of(costs))


def any_bound_of(ground, ends, sign):
    """The AnyBound by the least ways between each of these pairs of places, or the AnyUnbound."""
    found, ways, row = [], [], None
    for begin, (start, last) in enumerate(ends):
        costs, came = ground.ways_from(start)
        if last not in costs:
            return AnyUnbound(begin, sorted(costs))
        if found == [] or costs[last] > max(found):
            row = ground.row_of(costs)
        found.append(costs[last])
        ways.append(way_to(came, last))
    return AnyBound(sign * max(found), found.index(max(found)), row, ways)


def ground_of(book):
    """The Ground of the book; raises Impossible if no row keeps it."""
    paper = kept(book)
    if not paper:
        raise Impossible(paper)
    return Ground(book, paper.row)


def need_stretch_of(book, begin, length):
    """Raises BadBook for no Book, BadNumber for what tells no stretch of its days."""
    need_book(book, "book")
    need_number(begin, "begin", 0, book.days - 1)
    need_number(length, "length", 1, book.days - begin)


def need_length_of(book, length):
    """Raises BadBook for no Book, BadNumber for what is no length of a stretch of its days."""
    need_book(book, "book")
    need_number(length, "length", 1, book.days)
