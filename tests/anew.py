"""What points 6, 7 and 8 tell, worked out anew from their words, for the tests to compare with.

Rules are told here as triples (length, low, high).
"""

from itertools import combinations
from math import gcd

from anyseven.kept import Kept, Ring
from anyseven.longest import ForEver, Longest
from anyseven.loosened import Loosened, NeverKept
from anyseven.rows import Row
from anyseven.rules import Rule


def triples(rules):
    return [(rule.length, rule.low, rule.high) for rule in rules]


def is_number(value):
    return type(value) is int


def keeps_all(gains, rules):
    """Whether a row of these gains keeps the rules, each stretch added up."""
    for length, low, high in rules:
        for begin in range(len(gains) - length + 1):
            total = sum(gains[begin:begin + length])
            if (low is not None and total < low) or (high is not None and total > high):
                return False
    return True


def steps_of(days, rules):
    """All steps with the places to which they lead and their costs."""
    steps = {}
    for number, (length, low, high) in enumerate(rules):
        for place in range(days - length + 1):
            if high is not None:
                steps[place, number, 1] = (place + length, high)
            if low is not None:
                steps[place + length, number, -1] = (place, -low)
    return steps


def can_keep(days, rules):
    """Whether some row of so many days keeps the rules: no place comes home for less than 0."""
    places = range(days + 1)
    costs = {(one, other): 0 if one == other else None for one in places for other in places}
    for (place, _, _), (end, cost) in steps_of(days, rules).items():
        if costs[place, end] is None or cost < costs[place, end]:
            costs[place, end] = cost
    for by in places:
        for one in places:
            if costs[one, by] is None:
                continue
            for other in places:
                if costs[by, other] is not None:
                    cost = costs[one, by] + costs[by, other]
                    if costs[one, other] is None or cost < costs[one, other]:
                        costs[one, other] = cost
        if any(costs[place, place] < 0 for place in places):
            return False
    return True


def ring_cost(days, rules, steps):
    """The cost of a ring, None for what is none."""
    if not isinstance(steps, (list, tuple)) or len(steps) == 0:
        return None
    known, place, cost = steps_of(days, rules), None, 0
    for step in steps:
        if not isinstance(step, (list, tuple)) or not all(map(is_number, step)) or tuple(step) not in known:
            return None
        if place is not None and step[0] != place:
            return None
        place, more = known[tuple(step)]
        cost += more
    return cost if place == steps[0][0] else None


def is_low_ring(days, rules, steps):
    cost = ring_cost(days, rules, steps)
    return cost is not None and cost < 0


def is_kept_by(days, rules, row):
    return isinstance(row, Row) and len(row.gains) == days and keeps_all(row.gains, rules)


def one_loosened(rules, number, by):
    length, low, high = rules[number]
    changed = (length, None if low is None else low - by, None if high is None else high + by)
    return rules[:number] + [changed] + rules[number + 1:]


def all_quarrels(days, rules):
    """All quarrels, by looking at all choices of rules."""
    found = []
    for many in range(len(rules) + 1):
        for numbers in combinations(range(len(rules)), many):
            if not can_keep(days, [rules[number] for number in numbers]):
                fewer = [[rules[at] for at in numbers if at != number] for number in numbers]
                if all(can_keep(days, some) for some in fewer):
                    found.append(numbers)
    return tuple(found)


def most_days(rules):
    """How many days the rules last, by trying them one behind another; None for ever."""
    longest = max((length for length, _, _ in rules), default=1)
    # Rules of these lengths last so many days if they last for ever, and fewer if they do not.
    if can_keep(2 * longest, rules):
        return None
    return next(days for days in range(48) if not can_keep(days + 1, rules))


def right_kept(book, paper):
    rules = triples(book.rules)
    if type(paper) is Kept:
        return is_kept_by(book.days, rules, paper.parts[0])
    return type(paper) is Ring and is_low_ring(book.days, rules, paper.parts[0])


def right_loosened(book, number, paper):
    rules = triples(book.rules)
    if type(paper) is NeverKept:
        ring = paper.parts[0]
        return is_low_ring(book.days, rules, ring) and number not in [step[1] for step in ring]
    if type(paper) is not Loosened:
        return False
    by, row, ring = paper.parts
    if not is_number(by) or by < 0 or not is_kept_by(book.days, one_loosened(rules, number, by), row):
        return False
    return ring is None if by == 0 else is_low_ring(book.days, one_loosened(rules, number, by - 1), ring)


def right_longest(rules, paper):
    rules = triples(rules)
    if type(paper) is ForEver:
        pace = paper.parts[0]
        if not isinstance(pace, tuple) or len(pace) != 2 or not all(map(is_number, pace)):
            return False
        number, by = pace
        if by < 1 or gcd(number, by) != 1:
            return False
        return all(
            (low is None or low * by <= length * number) and (high is None or length * number <= high * by)
            for length, low, high in rules)
    if type(paper) is not Longest:
        return False
    days, row, ring = paper.parts
    if not is_number(days) or not 0 <= days <= 47:
        return False
    lasts = row is None if days == 0 else is_kept_by(days, rules, row)
    return lasts and is_low_ring(days + 1, rules, ring)


def is_closed(days, lot):
    """Whether no two of the lot add up to the days, or to less that is not in it."""
    return all(one + other > days or (one + other < days and one + other in lot) for one in lot for other in lot)


def all_closed(days):
    """All closed lots, by looking at all lots, in order."""
    lots = [lot for many in range(days) for lot in combinations(range(1, days), many)]
    return tuple(lot for lot in lots if is_closed(days, lot))


def made_by(most, lengths):
    """All numbers from 1 to most that are sums of the lengths."""
    made = {0}
    for number in range(1, most + 1):
        if any(number - length in made for length in lengths):
            made.add(number)
    return sorted(made - {0})


def tight_rules(chance, days, many, slack):
    """Rules about sums near the same for each day, so that some books of them are just kept, others just not."""
    rules = []
    for _ in range(many):
        length, middle = chance.randint(1, days), chance.randint(-slack, slack)
        low = chance.choice((None, middle - chance.randint(0, slack)))
        high = middle + chance.randint(0, slack) if low is None else chance.choice((None, middle + chance.randint(0, slack)))
        rules.append(Rule(length, low, high))
    return rules
