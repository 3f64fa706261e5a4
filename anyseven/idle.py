"""Sayings that follow from the others, and sayings that cannot be so together."""

from itertools import combinations

from anyseven.choices import contrary_choices, many_of_contrary, many_of_saying, many_together, need_few_choices
from anyseven.errors import Impossible
from anyseven.quarrels import holds_any
from anyseven.sayingbooks import need_saying_book
from anyseven.unseen import choice_lists, links_of_choice, need_countable_book, some_row


def idle(book):
    """The ascending tuple of the numbers of the sayings that are always so by the book without them."""
    need_countable_book(book)
    for number, saying in enumerate(book.sayings):
        others = many_together(book.days, book.without([number]).sayings)
        need_few_choices(others * many_of_contrary(book.days, saying))
    paper = some_row(book)
    if not paper:
        raise Impossible(paper)
    return tuple([number for number in range(len(book.sayings)) if is_idle(book, number)])


def saying_quarrels(book):
    """The tuple of all quarrels of the book, those with fewer sayings first, then as tuples."""
    need_few_together(book)
    lists = choice_lists(book)
    found = []
    for many in range(1, len(lists) + 1):
        for numbers in combinations(range(len(lists)), many):
            if not holds_any(numbers, found) and not can_be_so(book.days, [lists[number] for number in numbers]):
                found.append(numbers)
    return tuple(found)


def one_wrong(book):
    """The ascending tuple of the numbers of the sayings without each of which some row keeps the book."""
    need_few_together(book)
    lists = choice_lists(book)
    numbers = range(len(lists))
    return tuple([number for number in numbers if can_be_so(book.days, lists[:number] + lists[number + 1:])])


def is_idle(book, number):
    """Whether no row keeps the other sayings and not this one."""
    lists = choice_lists(book)
    lists[number] = contrary_choices(book.days, book.sayings[number])
    return not can_be_so(book.days, lists)


def can_be_so(days, lists):
    """Whether some row of so many days keeps a choice of each of these lists."""
    # Short lists first: what they rule out need not be looked at once for each choice of the others.
    return can_go_on(costs_of_no_step(days + 1), sorted(lists, key=len))


def can_go_on(costs, lists):
    """Whether steps with these least costs, and those of a choice of each list, make no ring that costs less than 0."""
    if len(lists) == 0:
        return True
    for choice in lists[0]:
        behind = costs_with_all(costs, links_of_choice([choice]))
        if behind is not None and can_go_on(behind, lists[1:]):
            return True
    return False


def costs_of_no_step(many):
    """The least costs of ways between so many places where there is no step: None but from each to itself."""
    return [[0 if place == end else None for end in range(many)] for place in range(many)]


def costs_with_all(costs, links):
    """The least costs of ways when these steps are put to the others, None if some ring costs less than 0."""
    for link in links:
        costs = costs_with(costs, link[0], link[1], link[2])
        if costs is None:
            return None
    return costs


def costs_with(costs, begin, end, cost):
    """The least costs of ways when one step is put to the others, None if some ring costs less than 0."""
    home, there = costs[end][begin], costs[begin][end]
    if home is not None and home + cost < 0:
        return None
    if there is not None and there <= cost:
        return costs
    # No ring costs less than 0, so a least way takes the step once at most.
    return [
        row if row[begin] is None else [least_of(old, row[begin] + cost, more) for old, more in zip(row, costs[end])]
        for row in costs]


def least_of(old, ahead, more):
    """The lesser one of a cost of old and of that of two ways together; of old, and for the second, None is no way."""
    if more is None:
        return old
    return ahead + more if old is None else min(old, ahead + more)


def need_few_together(book):
    """Raises BadBook for no SayingBook, TooMany for too many choices, those sayings left out that have none."""
    need_saying_book(book, "book")
    counts = [many_of_saying(book.days, saying) for saying in book.sayings]
    need_few_choices(many_together(book.days, [saying for saying, many in zip(book.sayings, counts) if many > 0]))
