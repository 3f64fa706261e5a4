"""Shelves: things, each kept under a name."""

from anyseven.books import Book
from anyseven.checks import is_name, need_no_twice
from anyseven.desk_lines import FORMS
from anyseven.errors import BadDesk, Misfit, NoName, Twice
from anyseven.rows import Row
from anyseven.sayingbooks import SayingBook


class Shelf:
    """Rows, books and saying books, each under a name, in the order in which they were put in."""

    def __init__(self, things=()):
        if not isinstance(things, (list, tuple)) or not all([is_named_thing(pair) for pair in things]):
            raise BadDesk("things")
        names = [pair[0] for pair in things]
        need_no_twice(names)
        self.things = tuple([tuple(pair) for pair in things])
        self.names = tuple(names)

    def __eq__(self, other):
        return isinstance(other, Shelf) and self.things == other.things

    def thing(self, name):
        """What is kept under the name."""
        if not isinstance(name, str) or name not in self.names:
            raise NoName(name)
        return self.things[self.names.index(name)][1]


def is_named_thing(value):
    """Whether it is a pair of a name and a thing that can be kept."""
    if not isinstance(value, (list, tuple)) or len(value) != 2:
        return False
    return is_name(value[0]) and isinstance(value[1], (Row, Book, SayingBook))


def kind_of(thing):
    """The word of the kind of a thing that is kept."""
    if isinstance(thing, Row):
        return "row"
    return "book" if isinstance(thing, Book) else "unseen"


def need_shelf(value, part):
    """Raises BadDesk for what is no Shelf."""
    if not isinstance(value, Shelf):
        raise BadDesk(part)


def values_on(shelf, told):
    """The list of what a line that is read tells behind its first item, with things for their names; NEW ones stay."""
    forms = FORMS[told[0]]
    values = list(told[1:])
    places = [at for at, form in enumerate(forms) if form.islower()]
    for at in places:
        values[at] = shelf.thing(values[at])
    for at in places:
        if kind_of(values[at]) not in forms[at].split(" "):
            raise Misfit("kinds")
    if "NEW" in forms[:1] and told[1] in shelf.names:
        raise Twice(told[1])
    return values
