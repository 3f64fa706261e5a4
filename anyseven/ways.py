"""Steps between the places of a book, ways of them, and rings that cost less than 0."""

from heapq import heappop, heappush

from anyseven.checks import are_integers, is_within


def lead_of(book, step):
    """The pair of the place to which a step of the book leads and its cost, None for no step."""
    if not are_integers(step) or len(step) != 3:
        return None
    place, number, sign = step
    if not is_within(number, 0, len(book.rules) - 1) or sign not in (1, -1):
        return None
    rule = book.rules[number]
    bound = rule.high if sign == 1 else rule.low
    end = place + sign * rule.length
    if bound is None or not is_within(place, 0, book.days) or not is_within(end, 0, book.days):
        return None
    return end, sign * bound


def way_of(book, steps):
    """The triple of the first place of a way, its last place and its cost.

    It is None for what is no list of steps of the book that are a way. The places of the way of
    no step are None: it leads from any place to itself.
    """
    if not isinstance(steps, (list, tuple)):
        return None
    first, last, cost = None, None, 0
    for step in steps:
        lead = lead_of(book, step)
        if lead is None or last not in (None, step[0]):
            return None
        if first is None:
            first = step[0]
        last = lead[0]
        cost += lead[1]
    return first, last, cost


def is_low_ring(book, steps):
    """Whether it is the steps of a ring of the book that costs less than 0."""
    way = way_of(book, steps)
    return way is not None and way[0] == way[1] and way[2] < 0


def links_of(book):
    """The list of all steps of the book, each as its begin, its end, its cost and itself."""
    links = []
    for number, rule in enumerate(book.rules):
        for place in range(book.days - rule.length + 1):
            ahead = place + rule.length
            if rule.high is not None:
                links.append((place, ahead, rule.high, (place, number, 1)))
            if rule.low is not None:
                links.append((ahead, place, -rule.low, (ahead, number, -1)))
    return links


def least_costs(many, links):
    """The pair of the least costs of ways to each of so many places, from any place, and None.

    If some ring costs less than 0 there are none: it is the pair of None and such a ring.
    """
    costs = [0] * many
    came = [None] * many
    # Without such a ring some least way comes to no place twice: it has fewer steps than there
    # are places, and the last round changes nothing.
    for _ in range(many):
        place = relax(costs, came, links)
        if place is None:
            return costs, None
    return None, ring_behind(came, place)


def relax(costs, came, links):
    """Goes once through all links; a place that costs less now, None if none does."""
    cheaper = None
    for link in links:
        begin, end, cost, _ = link
        if costs[begin] + cost < costs[end]:
            costs[end] = costs[begin] + cost
            came[end] = link
            cheaper = end
    return cheaper


def ring_behind(came, place):
    """The steps of the ring to which one comes from this place by going where each came from."""
    seen = {}
    steps = []
    while place not in seen:
        seen[place] = len(steps)
        link = came[place]
        steps.append(link[3])
        place = link[0]
    return steps[seen[place]:][::-1]


def links_by_begin(many, links):
    """The list of the lists of the links that begin at each of so many places."""
    outs = [[] for _ in range(many)]
    for link in links:
        outs[link[0]].append(link)
    return outs


def least_ways(outs, heights, start):
    """The pair of two dicts with all places to which ways come: their least costs, and the links that come last.

    The links that begin at each place are told, and the heights of a row in which no step leads up
    by more than its cost. Where the ways begin no link comes last.
    """
    # By how much a way costs more than the row rises along it, is never below 0.
    spare, came = {start: 0}, {}
    queue = [(0, start)]
    while queue:
        so_far, place = heappop(queue)
        if so_far > spare[place]:
            continue
        for link in outs[place]:
            end = link[1]
            more = so_far + heights[place] + link[2] - heights[end]
            if end not in spare or more < spare[end]:
                spare[end] = more
                came[end] = link
                heappush(queue, (more, end))
    return {place: spare[place] + heights[place] - heights[start] for place in spare}, came


def way_to(came, place):
    """The steps of the way that comes to this place, by the links that come last to each."""
    steps = []
    while place in came:
        steps.append(came[place][3])
        place = came[place][0]
    return steps[::-1]


def is_way(book, steps, first, last, most):
    """Whether it is the steps of a way of the book from one place to another one that costs at most so much."""
    way = way_of(book, steps)
    return way is not None and way[0] == first and way[1] == last and way[2] <= most
