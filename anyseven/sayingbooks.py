"""Saying books: a number of days, and sayings."""

from anyseven.checks import are_integers, is_within, need_no_twice, need_number
from anyseven.errors import BadBook, BadNumber, BadSaying, Misfit, NoSaying, TooMany
from anyseven.rows import Row, need_row
from anyseven.sayings import ITEMS, Told, is_saying, need_fitting, need_saying, saying_at, saying_text
from anyseven.texts import UNTOLD, item_at, items_of, need_end, need_item, number_at

MOST_UNSEEN_DAYS = 12
MOST_SAYINGS = 8


class SayingBook:
    """A number of days, and up to eight sayings, numbered from 0."""

    def __init__(self, days, sayings):
        need_unseen_days(days)
        if not isinstance(sayings, (list, tuple)) or not all([is_saying(saying) for saying in sayings]):
            raise BadSaying("sayings")
        for saying in sayings:
            need_fitting(saying, days)
        if len(sayings) > MOST_SAYINGS:
            raise TooMany("sayings", MOST_SAYINGS)
        self.days = days
        self.sayings = tuple(sayings)

    def __eq__(self, other):
        return isinstance(other, SayingBook) and self.days == other.days and self.sayings == other.sayings

    def __str__(self):
        return f"{self.days} : {sayings_text(self.sayings)}"

    def keeps(self, row):
        """Whether the row keeps all sayings."""
        return self.first_broken(row) is None

    def first_broken(self, row):
        """The number of the first saying that the row does not keep, None if it keeps the book."""
        need_row(row, "row")
        if row.days != self.days:
            raise Misfit("days")
        for number, saying in enumerate(self.sayings):
            if not saying.keeps(row):
                return number
        return None

    def with_saying(self, saying):
        """The SayingBook with this saying behind the others."""
        need_saying(saying, "saying")
        return SayingBook(self.days, self.sayings + (saying,))

    def without(self, numbers):
        """The SayingBook without the sayings with these numbers."""
        if not are_integers(numbers):
            raise BadNumber("numbers")
        for number in numbers:
            if not is_within(number, 0, len(self.sayings) - 1):
                raise NoSaying(number)
        need_no_twice(numbers)
        return SayingBook(self.days, [saying for at, saying in enumerate(self.sayings) if at not in numbers])

    def turned(self):
        """The SayingBook with each saying turned."""
        return SayingBook(self.days, [saying.turned() for saying in self.sayings])

    def backwards(self):
        """The SayingBook that is kept by the rows backwards."""
        return SayingBook(self.days, [saying_backwards(self.days, saying) for saying in self.sayings])

    @staticmethod
    def read(text):
        """The SayingBook of this text."""
        items = items_of(text)
        days = number_at(items, 0, 1, MOST_UNSEEN_DAYS)
        need_item(items, 1, ":")
        if item_at(items, 2) == UNTOLD:
            need_end(items, 3)
            return SayingBook(days, [])
        return SayingBook(days, sayings_at(items, 2, days))


def need_unseen_days(value):
    """Raises BadNumber for what is no number of days of an unseen row."""
    need_number(value, "days", 1, MOST_UNSEEN_DAYS)


def need_saying_book(value, part):
    """Raises BadBook for what is no SayingBook."""
    if not isinstance(value, SayingBook):
        raise BadBook(part)


def is_row_told(book, value):
    """Whether it is a Row that keeps the saying book."""
    return isinstance(value, Row) and value.days == book.days and book.keeps(value)


def sayings_text(sayings):
    """The texts of the sayings, with / between."""
    return " / ".join([saying_text(saying) for saying in sayings]) if sayings else UNTOLD


def sayings_at(items, at, days):
    """The sayings of so many days whose texts, with / between, are all items from there on."""
    sayings = [saying_at(items, at, days)]
    ahead = at + ITEMS[items[at]]
    while ahead < len(items):
        if len(sayings) == MOST_SAYINGS:
            need_end(items, ahead)
        need_item(items, ahead, "/")
        sayings.append(saying_at(items, ahead + 1, days))
        ahead += 1 + ITEMS[items[ahead + 1]]
    return sayings


def saying_backwards(days, saying):
    """The saying that the rows backwards keep if the rows keep this one."""
    if not isinstance(saying, Told):
        return saying
    return Told(days - saying.begin - saying.length, saying.length, saying.low, saying.high)
