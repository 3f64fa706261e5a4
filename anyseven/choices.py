"""Choices of stretches by which a row can keep a saying, or break it."""

from anyseven.errors import TooMany
from anyseven.rules import Rule
from anyseven.sayingbooks import need_saying_book, need_unseen_days
from anyseven.sayings import Just, Some, Told, need_fitting, need_saying

MOST_CHOICES = 400


def choices_of(days, saying):
    """The tuple of all choices of a saying."""
    need_saying_within(days, saying)
    # Of 12 days no saying has more than 144, so there are never too many.
    return tuple(saying_choices(days, saying))


def contrary_of(days, saying):
    """The tuple of all choices of the contrary of a saying."""
    need_saying_within(days, saying)
    need_few_choices(many_of_contrary(days, saying))
    return tuple(contrary_choices(days, saying))


def many_choices(book):
    """How many choices a book has."""
    need_saying_book(book, "book")
    return many_together(book.days, book.sayings)


def many_together(days, sayings):
    """How many choices these sayings have together."""
    many = 1
    for saying in sayings:
        many *= many_of_saying(days, saying)
    return many


def many_of_saying(days, saying):
    """How many choices a saying has."""
    begins = len(begins_of(days, saying.length))
    if isinstance(saying, Some):
        return begins
    return begins * begins if isinstance(saying, Just) else 1


def many_of_contrary(days, saying):
    """How many choices the contrary of a saying has."""
    begins = len(begins_of(days, saying.length))
    if isinstance(saying, Just):
        return 2 if begins > 0 else 1
    bounds = len([bound for bound in (saying.low, saying.high) if bound is not None])
    if isinstance(saying, Some):
        return 1 << begins if bounds == 2 else 1
    return bounds if isinstance(saying, Told) else begins * bounds


def saying_choices(days, saying):
    """The list of the choices of a saying."""
    length = saying.length
    begins = begins_of(days, length)
    if isinstance(saying, Rule):
        return [all_within(begins, length, saying.low, saying.high)]
    if isinstance(saying, Some):
        return [((begin, length, saying.low, saying.high),) for begin in begins]
    if isinstance(saying, Just):
        number = saying.number
        return [((one, length, None, number), (other, length, number, None)) for one in begins for other in begins]
    return [((saying.begin, length, saying.low, saying.high),)]


def contrary_choices(days, saying):
    """The list of the choices of the contrary of a saying."""
    length = saying.length
    begins = begins_of(days, length)
    if isinstance(saying, Just):
        sides = beyond(saying.number, saying.number)
        return [all_within(begins, length, low, high) for low, high in sides] if begins else [()]
    sides = beyond(saying.low, saying.high)
    if isinstance(saying, Some):
        return each_beyond(begins, length, sides)
    firsts = [saying.begin] if isinstance(saying, Told) else begins
    return [((begin, length, low, high),) for low, high in sides for begin in firsts]


def beyond(low, high):
    """The pairs of bounds of what is below the low, if it is told, and of what is above the high, if it is."""
    below = [] if low is None else [(None, low - 1)]
    above = [] if high is None else [(high + 1, None)]
    return below + above


def each_beyond(begins, length, sides):
    """The list of the tuples of all stretches of this length, each within the bounds of one of the sides."""
    found = [()]
    for begin in begins:
        found = [ahead + ((begin, length, low, high),) for ahead in found for low, high in sides]
    return found


def all_within(begins, length, low, high):
    """The tuple of all stretches of this length, each with these bounds."""
    return tuple([(begin, length, low, high) for begin in begins])


def begins_of(days, length):
    """All begins of stretches of this length in so many days, ascending."""
    return list(range(days - length + 1))


def together(lists):
    """The list of the tuples with a choice of each of these lists, in order."""
    # Of an empty list no choice can be taken, however many the others have.
    if not all([len(some) > 0 for some in lists]):
        return []
    found = [()]
    for some in lists:
        found = [ahead + (choice,) for ahead in found for choice in some]
    return found


def need_saying_within(days, saying):
    """Raises what is told of days of an unseen row and of a saying of it."""
    need_unseen_days(days)
    need_saying(saying, "saying")
    need_fitting(saying, days)


def need_few_choices(many):
    """Raises TooMany for more choices than are gone through."""
    if many > MOST_CHOICES:
        raise TooMany("choices", MOST_CHOICES)
