"""What point 10 tells, worked out anew from its words, for the tests to compare with.

Rules are told here as triples (length, low, high).
"""

from math import gcd

from anyseven.alike import Alike, Unlike
from anyseven.bounds import AnyBound, AnyUnbound, Bound, Unbound
from anyseven.follows import Breaks, Follows
from anyseven.rows import Row
from tests.anew import is_kept_by, is_number, steps_of, triples


def costs_between(days, rules):
    """The least costs of ways from each place to each other one, by the pairs of places; none where no way comes."""
    places = range(days + 1)
    costs = {(place, place): 0 for place in places}
    for (place, _, _), (end, cost) in steps_of(days, rules).items():
        if (place, end) not in costs or cost < costs[place, end]:
            costs[place, end] = cost
    for by in places:
        for one in places:
            if (one, by) in costs:
                for other in places:
                    if (by, other) in costs:
                        cost = costs[one, by] + costs[by, other]
                        if (one, other) not in costs or cost < costs[one, other]:
                            costs[one, other] = cost
    return costs


def greatest_sum(costs, begin, length):
    return costs.get((begin, begin + length))


def least_sum(costs, begin, length):
    cost = costs.get((begin + length, begin))
    return None if cost is None else -cost


def way_cost(days, rules, steps, first, last):
    """The cost of a way of a step or more from one place to another one, None for what is none."""
    if not isinstance(steps, (list, tuple)) or len(steps) == 0:
        return None
    known, place, cost = steps_of(days, rules), first, 0
    for step in steps:
        if not isinstance(step, (list, tuple)) or not all(map(is_number, step)) or tuple(step) not in known:
            return None
        if step[0] != place:
            return None
        place, more = known[tuple(step)]
        cost += more
    return cost if place == last else None


def is_shut(days, rules, places, within, without):
    """Whether it is ascending places with the one and not the other, out of which no step leads."""
    if not isinstance(places, (list, tuple)) or not all(map(is_number, places)):
        return False
    if list(places) != sorted(set(places)) or not set(places) <= set(range(days + 1)):
        return False
    if within not in places or without in places:
        return False
    return all(end in places for (place, _, _), (end, _) in steps_of(days, rules).items() if place in places)


def ends_of(begin, length, sign):
    return (begin, begin + length) if sign == 1 else (begin + length, begin)


def has_it(days, rules, row, begin, length, number):
    return is_number(number) and is_kept_by(days, rules, row) and sum(row.gains[begin:begin + length]) == number


def right_bound(book, begin, length, sign, paper):
    days, rules = book.days, triples(book.rules)
    first, last = ends_of(begin, length, sign)
    if type(paper) is Unbound:
        return is_shut(days, rules, paper.parts[0], first, last)
    if type(paper) is not Bound:
        return False
    number, way, row = paper.parts
    return has_it(days, rules, row, begin, length, number) and way_cost(days, rules, way, first, last) == number * sign


def right_any_bound(book, length, sign, paper):
    days, rules = book.days, triples(book.rules)
    begins = range(days - length + 1)
    if type(paper) is AnyUnbound:
        begin, places = paper.parts
        return is_number(begin) and begin in begins and is_shut(days, rules, places, *ends_of(begin, length, sign))
    if type(paper) is not AnyBound:
        return False
    number, begin, row, ways = paper.parts
    if not is_number(begin) or begin not in begins or not has_it(days, rules, row, begin, length, number):
        return False
    if not isinstance(ways, (list, tuple)) or len(ways) != len(begins):
        return False
    costs = [way_cost(days, rules, way, *ends_of(at, length, sign)) for at, way in zip(begins, ways)]
    return all(cost is not None and cost <= number * sign for cost in costs)


def right_follows(book, rule, paper):
    days, rules = book.days, triples(book.rules)
    begins = range(days - rule.length + 1)
    if type(paper) is Breaks:
        row, begin = paper.parts
        if not is_kept_by(days, rules, row) or not is_number(begin) or begin not in begins:
            return False
        brought = sum(row.gains[begin:begin + rule.length])
        return (rule.low is not None and brought < rule.low) or (rule.high is not None and brought > rule.high)
    if type(paper) is not Follows:
        return False
    pairs = paper.parts[0]
    if not isinstance(pairs, (list, tuple)) or len(pairs) != len(begins):
        return False
    for begin, both in zip(begins, pairs):
        if not isinstance(both, (list, tuple)) or len(both) != 2:
            return False
        for way, bound, sign in ((both[0], rule.low, -1), (both[1], rule.high, 1)):
            if bound is None:
                if way is not None:
                    return False
                continue
            cost = way_cost(days, rules, way, *ends_of(begin, rule.length, sign))
            if cost is None or cost > bound * sign:
                return False
    return True


def are_equal(gains, length):
    return len({sum(gains[begin:begin + length]) for begin in range(len(gains) - length + 1)}) <= 1


def right_alike(days, one, other, paper):
    divisor = gcd(one, other)
    if type(paper) is Unlike:
        row = paper.parts[0]
        if not isinstance(row, Row) or len(row.gains) != days:
            return False
        return are_equal(row.gains, one) and are_equal(row.gains, other) and not are_equal(row.gains, divisor)
    if type(paper) is not Alike:
        return False
    leads, firsts = paper.parts[0], range(max(days - divisor, 0))
    if not isinstance(leads, (list, tuple)) or len(leads) != len(firsts):
        return False
    for day, lead in zip(firsts, leads):
        if not isinstance(lead, (list, tuple)) or not all(map(is_number, lead)) or not set(lead) <= set(range(days)):
            return False
        if not lead or (lead[0], lead[-1]) != (day, day + divisor):
            return False
        if not all(abs(before - behind) in (one, other) for before, behind in zip(lead, lead[1:])):
            return False
    return True
