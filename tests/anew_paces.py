"""What point 12 tells, worked out anew from its words, for the tests to compare with.

Rules are told here as triples (length, low, high); fractions are Python's own.
"""

from fractions import Fraction
from heapq import heappop, heappush

from tests.anew import keeps_all


def clashing(rules):
    """The pairs of numbers of rules that clash, ascending."""
    return [
        (one, other) for one, (length, low, _) in enumerate(rules) for other, (second, _, high) in enumerate(rules)
        if low is not None and high is not None and Fraction(low, length) > Fraction(high, second)]


def pace_bounds(rules):
    """The least pace and the greatest one, None where there is none."""
    lows = [Fraction(low, length) for length, low, _ in rules if low is not None]
    highs = [Fraction(high, length) for length, _, high in rules if high is not None]
    return max(lows, default=None), min(highs, default=None)


def is_pace(rules, pace):
    return all(
        (low is None or low <= length * pace) and (high is None or length * pace <= high) for length, low, high in rules)


def again(gains, begin, many):
    """So many gains of a round from a day on, any integer."""
    return [gains[(begin + day) % len(gains)] for day in range(many)]


def round_keeps(gains, rules):
    """Whether a round keeps the rules: so often laid one behind another that each stretch is in one row."""
    longest = max((length for length, _, _ in rules), default=1)
    return keeps_all(again(gains, 0, len(gains) + longest), rules)


def settled_sum(rules, number):
    """The least cost of counts that make the number, None if none do: ways on all places far below and far above."""
    least, greatest = pace_bounds(rules)
    pace = greatest if least is None else least
    if pace is None:
        return None
    # A pace taken off each step leaves costs of 0 or more, so the cheapest place can be looked at first.
    steps = [(length, high - length * pace) for length, _, high in rules if high is not None]
    steps += [(-length, length * pace - low) for length, low, _ in rules if low is not None]
    found, queue = {}, [(Fraction(0), 0)]
    while queue:
        cost, place = heappop(queue)
        if place in found:
            continue
        found[place] = cost
        if place == number:
            return int(cost + number * pace)
        for by, more in steps:
            if abs(place + by) <= 200 and place + by not in found:
                heappush(queue, (cost + more, place + by))
    return None


def cost_of_counts(rules, forth, back):
    """The cost of counts and the number that they make, None if one is taken that is not told."""
    if any(many and high is None for many, (_, _, high) in zip(forth, rules)):
        return None
    if any(many and low is None for many, (_, low, _) in zip(back, rules)):
        return None
    cost = sum(many * (high or 0) for many, (_, _, high) in zip(forth, rules))
    cost -= sum(many * (low or 0) for many, (_, low, _) in zip(back, rules))
    return cost, sum((more - fewer) * length for more, fewer, (length, _, _) in zip(forth, back, rules))
