"""Two rules that clash: how long they last by themselves, by their lengths alone."""

from math import gcd

from anyseven.books import Book
from anyseven.checks import need_number
from anyseven.kept import kept
from anyseven.rules import Rule

LONGEST_LENGTH = 24


def pair_longest(one, other):
    """How many days a rule of the length one and a rule of the length other that clash last."""
    need_lengths_of_pair(one, other)
    return one + other - gcd(one, other) - 1


def pair_ring(one, other):
    """The tuple of the places of the ring of the two lengths, 0 first and last."""
    need_lengths_of_pair(one, other)
    places = [0]
    while len(places) == 1 or places[-1] != 0:
        place = places[-1]
        places.append(place + other if place < one else place - one)
    return tuple(places)


def pair_row(one, other):
    """A Row of as many days as both last in which one gains and other loses, None for 0 days."""
    days = pair_longest(one, other)
    if days == 0:
        return None
    return kept(Book(days, [Rule(one, 1), Rule(other, None, -1)])).row


def need_lengths_of_pair(one, other):
    """Raises BadNumber for what is no length of a rule that lasts."""
    need_number(one, "one", 1, LONGEST_LENGTH)
    need_number(other, "other", 1, LONGEST_LENGTH)
