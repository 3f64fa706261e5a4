"""Ask lines: what a shelf answers."""

from anyseven.books import Book
from anyseven.bounds import greatest, least
from anyseven.desk_lines import ASKS, need_first, read_line
from anyseven.follows import follows
from anyseven.idle import idle, saying_quarrels
from anyseven.kept import kept
from anyseven.longest import longest
from anyseven.missed import missed_lot
from anyseven.needless import needless
from anyseven.paces import paces, simplest_pace
from anyseven.quarrels import quarrels
from anyseven.shelves import kind_of, need_shelf, values_on
from anyseven.sorts import sort_of, sums
from anyseven.tables import table_of
from anyseven.texts import UNTOLD, number_text
from anyseven.unseen import judged, some_row


def show_text(values):
    """The kind and the text of a thing."""
    return f"{kind_of(values[0])} {values[0]}"


def heights_text(values):
    """The heights of a row."""
    return numbers_text(values[0].heights)


def sums_text(values):
    """The sums of a length."""
    return numbers_text(sums(values[0], values[1]))


def sort_text(values):
    """The word of the sort of a length."""
    return sort_of(values[0], values[1])


def table_text(values):
    """The gaining and the losing lengths of a row."""
    table = table_of(values[0])
    return f"{numbers_text(table.gaining)} / {numbers_text(table.losing)}"


def missed_text(values):
    """The missed lengths of a row."""
    return numbers_text(missed_lot(values[0]))


def keeps_text(values):
    """Whether a row keeps a book or a saying book."""
    return "yes" if values[1].keeps(values[0]) else "no"


def kept_text(values):
    """The word of the paper that tells whether some row keeps a book or a saying book."""
    book = values[0]
    paper = kept(book) if isinstance(book, Book) else some_row(book)
    return paper.word


def longest_text(values):
    """The most days of the rules of a book."""
    paper = longest(values[0].rules)
    return number_text(paper.days) if paper else paper.word


def pace_text(values):
    """The simplest pace of the rules of a book."""
    paper = paces(values[0].rules)
    return numbers_text(simplest_pace(values[0].rules)) if paper else paper.word


def most_text(values):
    """The greatest sum of a stretch by a book."""
    return bound_number_text(greatest(values[0], values[1], values[2]))


def least_text(values):
    """The least sum of a stretch by a book."""
    return bound_number_text(least(values[0], values[1], values[2]))


def follows_text(values):
    """The word of the paper that tells whether a rule follows from a book."""
    paper = follows(values[0], values[1])
    return paper.word


def needless_text(values):
    """The numbers of the needless rules of a book."""
    return numbers_text(needless(values[0]))


def is_text(values):
    """The word of the paper that judges a saying by a saying book."""
    paper = judged(values[0], values[1])
    return paper.word


def idle_text(values):
    """The numbers of the idle sayings of a saying book."""
    return numbers_text(idle(values[0]))


def quarrels_text(values):
    """The numbers of each quarrel of a book or a saying book."""
    book = values[0]
    found = quarrels(book) if isinstance(book, Book) else saying_quarrels(book)
    return " / ".join([numbers_text(numbers) for numbers in found]) if found else UNTOLD


ANSWERS = {
    "show": show_text, "heights": heights_text, "sums": sums_text, "sort": sort_text, "table": table_text,
    "missed": missed_text, "keeps": keeps_text, "kept": kept_text, "longest": longest_text, "pace": pace_text,
    "most": most_text, "least": least_text, "follows": follows_text, "needless": needless_text, "is": is_text,
    "idle": idle_text, "quarrels": quarrels_text}


def answer_of(shelf, line):
    """The answer to an ask line."""
    need_shelf(shelf, "shelf")
    need_first(line, ASKS)
    told = read_line(line)
    values = values_on(shelf, told)
    if told[0] == "names":
        return " ".join(shelf.names) if shelf.names else UNTOLD
    ask = ANSWERS[told[0]]
    return ask(values)


def numbers_text(numbers):
    """The integers with blanks between, a mark where there is none."""
    return " ".join([number_text(number) for number in numbers]) if numbers else UNTOLD


def bound_number_text(paper):
    """The number of a Bound, a mark for an Unbound."""
    return number_text(paper.number) if paper else UNTOLD
