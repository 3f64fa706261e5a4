"""What points 15 and 16 tell, worked out anew from their words, for the tests to compare with.

Sayings are told here as tuples: ("any", length, low, high), ("some", ..), ("just", length, number),
("told", begin, length, low, high).
"""

import random
from itertools import product

from anyseven.rows import Row
from anyseven.rules import Rule
from anyseven.sayingbooks import SayingBook
from anyseven.sayings import Just, Some, Told
from anyseven.unseen import Always, Barred, Found, Never, Open
from tests.anew import is_number

KINDS = {"any": Rule, "some": Some, "just": Just, "told": Told}


def made(saying):
    return KINDS[saying[0]](*saying[1:])


def told(saying):
    """The tuple of a saying."""
    word = next(word for word, kind in KINDS.items() if type(saying) is kind)
    names = {"any": "length low high", "some": "length low high", "just": "length number", "told": "begin length low high"}
    return (word, *[getattr(saying, name) for name in names[word].split()])


def within(total, low, high):
    return (low is None or low <= total) and (high is None or total <= high)


def sums_of(gains, length):
    return [sum(gains[begin:begin + length]) for begin in range(len(gains) - length + 1)]


def keeps(gains, saying):
    """Whether it is so in a row of these gains."""
    word, *parts = saying
    if word == "told":
        begin, length, low, high = parts
        return within(sum(gains[begin:begin + length]), low, high)
    sums = sums_of(gains, parts[0])
    if word == "just":
        return bool(sums) and min(sums) <= parts[1] <= max(sums)
    return (all if word == "any" else any)(within(total, *parts[1:]) for total in sums)


def sides(low, high):
    """The bounds of what is below the low and of what is above the high, each if it is told."""
    return ([] if low is None else [(None, low - 1)]) + ([] if high is None else [(high + 1, None)])


def choices(days, saying):
    """The choices of a saying, as point 15 lists them."""
    word, *parts = saying
    if word == "told":
        return [(tuple(parts),)]
    length = parts[0]
    begins = list(range(days - length + 1))
    if word == "any":
        return [tuple((begin, length, parts[1], parts[2]) for begin in begins)]
    if word == "some":
        return [((begin, length, parts[1], parts[2]),) for begin in begins]
    return [((one, length, None, parts[1]), (other, length, parts[1], None)) for one in begins for other in begins]


def contrary(days, saying):
    """The choices of the contrary of a saying, as point 15 lists them."""
    word, *parts = saying
    if word == "told":
        begin, length, low, high = parts
        return [((begin, length, *side),) for side in sides(low, high)]
    length = parts[0]
    begins = list(range(days - length + 1))
    if word == "any":
        return [((begin, length, *side),) for side in sides(*parts[1:]) for begin in begins]
    if not begins:
        return [()]
    if word == "just":
        return [tuple((begin, length, *side) for begin in begins) for side in sides(parts[1], parts[1])]
    told_sides = sides(*parts[1:])
    if len(told_sides) == 1:
        return [tuple((begin, length, *told_sides[0]) for begin in begins)]
    return [tuple((begin, length, *side) for begin, side in zip(begins, some)) for some in product(told_sides, repeat=len(begins))]


def steps_of(choice):
    """All steps of a choice of a book with the places to which they lead and their costs."""
    steps = {}
    for number, stretches in enumerate(choice):
        for begin, length, low, high in stretches:
            if high is not None:
                steps[begin, number, 1] = (begin + length, high)
            if low is not None:
                steps[begin + length, number, -1] = (begin, -low)
    return steps


def is_ring(choice, steps):
    """Whether it is the steps of a ring of the choice that costs less than 0."""
    if not isinstance(steps, tuple) or len(steps) == 0:
        return False
    known, place, cost = steps_of(choice), None, 0
    for step in steps:
        if not isinstance(step, tuple) or not all(map(is_number, step)) or step not in known:
            return False
        if place is not None and step[0] != place:
            return False
        place, more = known[step]
        cost += more
    return place == steps[0][0] and cost < 0


def are_rings(lists, rings):
    all_choices = list(product(*lists))
    if not isinstance(rings, tuple) or len(rings) != len(all_choices):
        return False
    return all(is_ring(choice, ring) for choice, ring in zip(all_choices, rings))


def choice_can_be(days, choice):
    """Whether there is no ring: no place comes home for less than 0."""
    places = range(days + 1)
    costs = [[0 if one == other else 10 ** 30 for other in places] for one in places]
    for (place, _, _), (end, cost) in steps_of(choice).items():
        costs[place][end] = min(costs[place][end], cost)
    for by in places:
        for one in places:
            if costs[one][by] < 10 ** 29:
                ahead = costs[one][by]
                for other in places:
                    if costs[by][other] < 10 ** 29:
                        costs[one][other] = min(costs[one][other], ahead + costs[by][other])
        if any(costs[place][place] < 0 for place in places):
            return False
    return True


def can_be(days, lists):
    """Whether some row keeps a choice of each list."""
    return all(lists) and any(choice_can_be(days, choice) for choice in product(*lists))


def book_lists(days, sayings):
    return [choices(days, saying) for saying in sayings]


def verdict(days, sayings, saying):
    """The word of what is so of a saying by a book that some row keeps."""
    lists = book_lists(days, sayings)
    if not can_be(days, lists + [choices(days, saying)]):
        return "never"
    return "open" if can_be(days, lists + [contrary(days, saying)]) else "always"


def is_row(days, value):
    return isinstance(value, Row) and len(value.gains) == days


def right_some_row(days, sayings, paper):
    if type(paper) is Found:
        return is_row(days, paper.row) and all(keeps(paper.row.gains, saying) for saying in sayings)
    return type(paper) is Barred and are_rings(book_lists(days, sayings), paper.rings)


def right_judged(days, sayings, saying, paper):
    lists = book_lists(days, sayings)
    if type(paper) is Open:
        if not is_row(days, paper.one) or not is_row(days, paper.other):
            return False
        if not all(keeps(row.gains, some) for row in paper.parts for some in sayings):
            return False
        return keeps(paper.one.gains, saying) and not keeps(paper.other.gains, saying)
    if type(paper) is Always:
        return are_rings(lists + [contrary(days, saying)], paper.rings)
    return type(paper) is Never and are_rings(lists + [choices(days, saying)], paper.rings)


def some_saying(chance, days, pace=0, slack=2, kinds="any any some just told"):
    """A saying about sums near the pace, so that books of them are kept, or just not; lengths may be above the days."""
    word = chance.choice(kinds.split())
    length = chance.randint(1, days + (chance.random() < 0.1))
    middle = pace * length + chance.randint(-slack, slack)
    low = chance.choice((None, middle - chance.randint(0, slack)))
    high = middle + chance.randint(0, slack) if low is None else chance.choice((None, middle + chance.randint(0, slack)))
    if word == "just":
        return (word, length, middle)
    if word == "told":
        begin = chance.randint(0, days - 1)
        return (word, begin, chance.randint(1, days - begin), low, high)
    return (word, length, low, high)


def some_books(seed, count, most_days=5, most_sayings=4, most_choices=400, slack=2):
    """Saying books, as pairs of their days and their sayings, with not too many choices."""
    chance = random.Random(seed)
    while count > 0:
        days = chance.randint(1, most_days)
        sayings = [some_saying(chance, days, chance.choice((0, 1)), slack) for _ in range(chance.randint(0, most_sayings))]
        many = 1
        for saying in sayings:
            many *= len(choices(days, saying))
        if many <= most_choices:
            count -= 1
            yield days, sayings


def book_of(days, sayings):
    return SayingBook(days, [made(saying) for saying in sayings])
