"""What point 12 tells, worked out anew from its words, for the tests to compare with.

Rules are told here as triples (length, low, high); fractions are Python's own.
"""

from fractions import Fraction
from heapq import heappop, heappush

from anyseven.paces import Clash, Paces
from anyseven.rounds import NoTotal, Totals
from anyseven.rows import Row
from anyseven.settled import NoSum, Settled
from tests.anew import is_number, keeps_all


def clashing(rules):
    """The pairs of numbers of rules that clash, ascending."""
    return [
        (one, other) for one, (length, low, _) in enumerate(rules) for other, (second, _, high) in enumerate(rules)
        if low is not None and high is not None and Fraction(low, length) > Fraction(high, second)]


def pace_bounds(rules):
    """The least pace and the greatest one, None where there is none."""
    lows = [Fraction(low, length) for length, low, _ in rules if low is not None]
    highs = [Fraction(high, length) for length, _, high in rules if high is not None]
    return max(lows, default=None), min(highs, default=None)


def is_pace(rules, pace):
    return all(
        (low is None or low <= length * pace) and (high is None or length * pace <= high) for length, low, high in rules)


def again(gains, begin, many):
    """So many gains of a round from a day on, any integer."""
    return [gains[(begin + day) % len(gains)] for day in range(many)]


def round_keeps(gains, rules):
    """Whether a round keeps the rules: so often laid one behind another that each stretch is in one row."""
    longest = max((length for length, _, _ in rules), default=1)
    return keeps_all(again(gains, 0, len(gains) + longest), rules)


def settled_sum(rules, number):
    """The least cost of counts that make the number, None if none do: ways on all places far below and far above."""
    least, greatest = pace_bounds(rules)
    pace = greatest if least is None else least
    if pace is None:
        return None
    # A pace taken off each step leaves costs of 0 or more, so the cheapest place can be looked at first.
    steps = [(length, high - length * pace) for length, _, high in rules if high is not None]
    steps += [(-length, length * pace - low) for length, low, _ in rules if low is not None]
    found, queue = {}, [(Fraction(0), 0)]
    while queue:
        cost, place = heappop(queue)
        if place in found:
            continue
        found[place] = cost
        if place == number:
            return int(cost + number * pace)
        for by, more in steps:
            if abs(place + by) <= 200 and place + by not in found:
                heappush(queue, (cost + more, place + by))
    return None


def cost_of_counts(rules, forth, back):
    """The cost of counts and the number that they make, None if one is taken that is not told."""
    if any(many and high is None for many, (_, _, high) in zip(forth, rules)):
        return None
    if any(many and low is None for many, (_, low, _) in zip(back, rules)):
        return None
    cost = sum(many * (high or 0) for many, (_, _, high) in zip(forth, rules))
    cost -= sum(many * (low or 0) for many, (_, low, _) in zip(back, rules))
    return cost, sum((more - fewer) * length for more, fewer, (length, _, _) in zip(forth, back, rules))


def total_bounds(days, rules):
    """For each rule the least total of a round that its low allows, and the greatest that its high does."""
    found = []
    for length, low, high in rules:
        least = None if low is None else -((-low * days) // length)
        found.append((least, None if high is None else high * days // length))
    return found


def no_totals(days, rules):
    """The pairs of numbers of rules, the low of one and the high of other, that let no integer be the total."""
    bounds = list(enumerate(total_bounds(days, rules)))
    return [
        (one, other) for one, (low, _) in bounds for other, (_, high) in bounds
        if low is not None and high is not None and low > high]


def are_plain(values, right):
    """Whether these are the same values, of the same kinds."""
    return all(type(value) is type(told) and value == told for value, told in zip(values, right))


def is_told_fraction(value, right):
    if right is None:
        return value is None
    return isinstance(value, tuple) and len(value) == 2 and are_plain(value, (right.numerator, right.denominator))


def right_paces(rules, paper):
    pairs = clashing(rules)
    if type(paper) is Clash:
        return all(map(is_number, paper.parts)) and paper.parts in pairs
    if type(paper) is not Paces or pairs:
        return False
    return all(is_told_fraction(value, right) for value, right in zip(paper.parts, pace_bounds(rules)))


def right_totals(days, rules, paper):
    pairs = no_totals(days, rules)
    if type(paper) is NoTotal:
        return all(map(is_number, paper.parts)) and paper.parts in pairs
    if type(paper) is not Totals or pairs:
        return False
    lows = [low for low, _ in total_bounds(days, rules) if low is not None]
    highs = [high for _, high in total_bounds(days, rules) if high is not None]
    return are_plain(paper.parts, (max(lows, default=None), min(highs, default=None)))


def right_settled(rules, length, paper):
    if clashing(rules):
        return False
    number = settled_sum(rules, length)
    if type(paper) is NoSum:
        divisor = paper.divisor
        if divisor is None:
            one_way = all(low is None for _, low, _ in rules) or all(high is None for _, _, high in rules)
            return one_way and number is None
        if not is_number(divisor) or divisor < 1 or not rules:
            return False
        return length % divisor != 0 and all(told % divisor == 0 for told, _, _ in rules)
    if type(paper) is not Settled or number is None or not are_plain([paper.most], [number]):
        return False
    for counts in (paper.forth, paper.back):
        if not isinstance(counts, tuple) or len(counts) != len(rules):
            return False
        if not all(is_number(many) and many >= 0 for many in counts):
            return False
    if cost_of_counts(rules, paper.forth, paper.back) != (number, length) or not isinstance(paper.row, Row):
        return False
    lengths = sorted({told for told, _, _ in rules}, reverse=True)
    enough = 1 if not lengths else lengths[0] if len(lengths) == 1 else lengths[0] + lengths[1] - 1
    gains = paper.row.gains
    if len(gains) < max(enough, length) or not keeps_all(gains, rules):
        return False
    return number in [sum(gains[begin:begin + length]) for begin in range(len(gains) - length + 1)]
