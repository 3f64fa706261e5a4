"""What point 13 tells, worked out anew from its words, for the tests to compare with.

Rules are told here as triples (length, low, high).
"""

import random
from functools import lru_cache
from itertools import product

from anyseven.duty_bounds import Duties
from anyseven.rules import Rule
from tests.anew import keeps_all
from tests.anew_bounds import way_cost

WORK = (1, 0, 1)


def fitting(days, rules):
    """All duties of so many days that keep the rules, in the order of their numbers."""
    return [gains for gains in product((0, 1), repeat=days) if keeps_all(gains, rules)]


def many_fitting(days, rules, begun=()):
    """How many there are with this begin, by going on day by day; for more days than can be listed."""
    @lru_cache(None)
    def ways(day, last):
        if day == days:
            return 1
        return sum(ways(day + 1, (last + (work,))[-8:]) for work in works(day) if stays(last + (work,)))

    def works(day):
        return (begun[day],) if day < len(begun) else (0, 1)

    def stays(gains):
        # Behind a day just the stretches that end there are new.
        return all(len(gains) < length or keeps_all(gains[-length:], [(length, low, high)]) for length, low, high in rules)

    return ways(0, ())


def some_duty_rules(seed, count, most_length=8):
    """Rules of work: so many of which some duties fit, and so narrow that few do, or none."""
    chance = random.Random(seed)
    for _ in range(count):
        rules = []
        for _ in range(chance.choice((0, 1, 2, 2, 3, 4))):
            length = chance.randint(1, most_length)
            middle = (length + chance.choice((0, 1, -1))) // 2 if chance.random() < 0.4 else chance.randint(0, length)
            low = chance.choice((None, middle, middle, middle - 1, middle - 2))
            high = middle + chance.choice((0, 1, 2))
            high = high if low is None else chance.choice((None, high))
            rules.append(Rule(length, low, high))
        yield rules


def right_duties(days, rules, sign, paper):
    """Whether it is right by its words: the row fits, no duty has less, or more, work, and the way costs just so much."""
    if type(paper) is not Duties or not hasattr(paper.row, "gains"):
        return False
    gains, book = paper.row.gains, list(rules) + [WORK]
    if len(gains) != days or not keeps_all(gains, book):
        return False
    first, last = (0, days) if sign == 1 else (days, 0)
    return way_cost(days, book, paper.way, first, last) == sign * sum(gains)
