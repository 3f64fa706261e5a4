"""Whether each row that keeps a book keeps a rule, too."""

from anyseven.books import need_book
from anyseven.bounds import ground_of
from anyseven.papers import Denial, Paper
from anyseven.rules import contrary, need_rule
from anyseven.ways import way_to


class Follows(Paper):
    """For each stretch of the rule two ways, home and forth, that let it be no less and no more."""

    def __init__(self, ways):
        super().__init__("follows", ways)
        self.ways = self.parts[0]


class Breaks(Denial):
    """A row that keeps the book, and the begin of a stretch in it that breaks the rule."""

    def __init__(self, row, begin):
        super().__init__("breaks", row, begin)
        self.row = self.parts[0]
        self.begin = self.parts[1]


def follows(book, rule):
    """The Follows of the rule, or a Breaks if some row that keeps the book breaks it."""
    need_book(book, "book")
    need_rule(rule, "rule")
    ground = ground_of(book)
    pairs = []
    for begin in range(book.days - rule.length + 1):
        pair = []
        for start, last, most in directions(begin, rule):
            way, row = way_within(ground, start, last, most)
            if row is not None:
                return Breaks(row, begin)
            pair.append(way)
        pairs.append(pair)
    return Follows(pairs)


def directions(begin, rule):
    """For the way home and the way forth: where it begins, where it ends, and the most it may cost."""
    end = begin + rule.length
    return (end, begin, contrary(rule.low)), (begin, end, rule.high)


def way_within(ground, start, last, most):
    """The pair of a way that costs at most so much, and None; both are None where nothing is told.

    Without such a way it is the pair of None and a Row that rises by more.
    """
    if most is None:
        return None, None
    costs, came = ground.ways_from(start)
    if last not in costs:
        return None, ground.row_of(costs, most + 1 - ground.heights[last])
    if costs[last] > most:
        return None, ground.row_of(costs)
    return way_to(came, last), None
