"""Which papers of saying books are right."""

from anyseven.checks import are_integers
from anyseven.choices import contrary_choices, saying_choices, together
from anyseven.sayingbooks import is_row_told
from anyseven.unseen import (
    Always, Barred, Found, Never, Open, choice_lists, links_of_choice, need_countable_book, need_judged)


def shows_some_row(book, value):
    """Whether it is a Found of any row that keeps the book, or a Barred of any rings of its choices."""
    need_countable_book(book)
    if type(value) is Found:
        return is_row_told(book, value.row)
    return type(value) is Barred and are_rings(choice_lists(book), value.rings)


def shows_judged(book, saying, value):
    """Whether it is an Always, a Never, or an Open of any rings, or rows; whether any keeps the book is not asked."""
    need_judged(book, saying)
    if type(value) is Open:
        if not is_row_told(book, value.one) or not is_row_told(book, value.other):
            return False
        return saying.keeps(value.one) and not saying.keeps(value.other)
    if type(value) is Always:
        return are_rings(choice_lists(book) + [contrary_choices(book.days, saying)], value.rings)
    return type(value) is Never and are_rings(choice_lists(book) + [saying_choices(book.days, saying)], value.rings)


def are_rings(lists, rings):
    """Whether it is a ring of each choice of these lists, in order."""
    choices = together(lists)
    if not isinstance(rings, (list, tuple)) or len(rings) != len(choices):
        return False
    return all([is_ring_of(choice, ring) for choice, ring in zip(choices, rings)])


def is_ring_of(choice, steps):
    """Whether it is the steps of a ring of the choice that cost less than 0."""
    if not isinstance(steps, (list, tuple)) or len(steps) == 0:
        return False
    if not all([are_integers(step) and len(step) == 3 for step in steps]):
        return False
    links = {link[3]: link for link in links_of_choice(choice)}
    cost = 0
    for at, step in enumerate(steps):
        link = links.get(tuple(step))
        if link is None or link[1] != steps[(at + 1) % len(steps)][0]:
            return False
        cost += link[2]
    return cost < 0
