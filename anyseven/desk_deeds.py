"""Deed lines: what they change on a shelf, and what they answer."""

from anyseven.books import Book
from anyseven.desk_lines import DEEDS, need_first, read_line
from anyseven.rows import Row
from anyseven.sayingbooks import SayingBook
from anyseven.shelves import Shelf, need_shelf, values_on
from anyseven.texts import number_text


def told_row(values):
    """The row that is told."""
    return values[1]


def new_book(values):
    """The book of so many days without rules."""
    return Book(values[1], [])


def new_saying_book(values):
    """The saying book of so many days without sayings."""
    return SayingBook(values[1], [])


def joined_rows(values):
    """The two rows, joined."""
    return values[1].joined(values[2])


def day_later(values):
    """The row with a day more behind it."""
    return values[0].joined(Row([values[1]]))


def with_rule(values):
    """The book with a rule more."""
    return values[0].with_rule(values[1])


def with_saying(values):
    """The saying book with a saying more."""
    return values[0].with_saying(values[1])


def stricken(values):
    """The book, or the saying book, without some of its lines."""
    return values[0].without(values[1:])


def with_days(values):
    """The book with so many days."""
    return values[0].with_days(values[1])


def turned_thing(values):
    """The row times -1, the book or the saying book turned."""
    thing = values[0]
    return thing.times(-1) if isinstance(thing, Row) else thing.turned()


def no_thing(values):
    """What is kept of a thing that is taken out."""
    return None


MAKERS = {
    "row": told_row, "book": new_book, "unseen": new_saying_book, "join": joined_rows, "day": day_later,
    "rule": with_rule, "say": with_saying, "strike": stricken, "days": with_days, "turn": turned_thing,
    "drop": no_thing}


def changed(shelf, line):
    """The pair of the Shelf behind a deed line, and the answer."""
    need_shelf(shelf, "shelf")
    need_first(line, DEEDS)
    told = read_line(line)
    values = values_on(shelf, told)
    make = MAKERS[told[0]]
    thing = make(values)
    later = shelf_with(shelf, told[1], thing)
    return later, number_text(answer_to(told[0], later, thing))


def shelf_with(shelf, name, thing):
    """The Shelf with this thing under the name, in its place or behind the others; without the name for no thing."""
    pairs = [(kept_name, thing if kept_name == name else old) for kept_name, old in shelf.things]
    if name not in shelf.names:
        pairs.append((name, thing))
    return Shelf([pair for pair in pairs if pair[1] is not None])


def answer_to(word, shelf, thing):
    """The number that a deed line with this first item answers, by the shelf behind it and the thing that it made."""
    if word in ("row", "join", "day"):
        return thing.total
    if word in ("book", "unseen", "drop"):
        return len(shelf.names)
    if word == "turn":
        return thing.days
    many = len(thing.rules) if isinstance(thing, Book) else len(thing.sayings)
    return many - 1 if word in ("rule", "say") else many
