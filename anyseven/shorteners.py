"""Which rules keep rows short."""

from anyseven.longest import most_days, need_lasting_rules
from anyseven.pairs_of_lengths import pair_longest
from anyseven.rules import do_clash


def clashes(rules):
    """The ascending tuple of the triples of two rules that clash and how many days they last."""
    need_lasting_rules(rules)
    found = []
    for one, rule in enumerate(rules):
        for other, second in enumerate(rules):
            if do_clash(rule, second):
                found.append((one, other, pair_longest(rule.length, second.length)))
    return tuple(found)


def without_each(rules):
    """The tuple of the most days of all others for each rule, None if they last for ever."""
    need_lasting_rules(rules)
    return tuple([most_days(others_of(rules, number)) for number in range(len(rules))])


def shorteners(rules):
    """The ascending tuple of the numbers of the rules without which the others last longer."""
    need_lasting_rules(rules)
    most = most_days(rules)
    if most is None:
        return ()
    return tuple([number for number, days in enumerate(without_each(rules)) if days is None or days > most])


def others_of(rules, number):
    """The rules but for that with this number."""
    return [rule for at, rule in enumerate(rules) if at != number]
