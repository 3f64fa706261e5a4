"""Rules of a book that follow from the others, and books tightened to what follows from them."""

from anyseven.books import Book
from anyseven.bounds import ground_of
from anyseven.follows import follows
from anyseven.rules import Rule, contrary


def needless(book):
    """The ascending tuple of the numbers of the rules that follow from the book without them, each by itself."""
    ground_of(book)
    return tuple([number for number, rule in enumerate(book.rules) if follows(book.without([number]), rule)])


def tightened(book):
    """The Book with one rule for each length of its rules up to its days, which tells the bounds of any stretch."""
    ground = ground_of(book)
    costs = [ground.ways_from(place)[0] for place in range(book.days + 1)]
    lengths = sorted({rule.length for rule in book.rules if rule.length <= book.days})
    return Book(book.days, [tight_rule(costs, length) for length in lengths])


def tight_rule(costs, length):
    """The Rule of the least and the greatest sum of any stretch, by the least costs of ways from each place."""
    begins = range(len(costs) - length)
    home = [costs[begin + length].get(begin) for begin in begins]
    forth = [costs[begin].get(begin + length) for begin in begins]
    return Rule(length, contrary(greatest_cost(home)), greatest_cost(forth))


def greatest_cost(costs):
    """The greatest of these costs, None if one of the ways is not there."""
    return None if None in costs else max(costs)
