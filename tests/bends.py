"""Papers bent at each of their parts: what the check functions must tell from right ones."""

from anyseven.papers import Paper
from anyseven.rows import Row
from tests.support import OTHER

STRANGE = (
    True, False, None, 0, 1, -1, 2, 10 ** 70, 2.5, 1.0, "", "1", "ring", b"1", (), [], [()], [[]], [None], {}, {0: 1},
    {1}, OTHER, Paper, Row, Row([0]), Paper("kept", Row([0])))


def bent_numbers(number):
    """Other values in the place of an integer, also what Python takes for equal."""
    others = [number + 1, number - 1, -number, number * 2, float(number), str(number), [number], bool(number)]
    return others + list(STRANGE)


def bent_row(row):
    """Other rows in the place of a Row, and what is none."""
    gains = list(row.gains)
    others = [gains[::-1], [gain + 1 for gain in gains], [-gain for gain in gains], gains[1:], gains[:-1], gains + [0]]
    for at in range(len(gains)):
        for more in (1, -1, 10 ** 4, -10 ** 4):
            others.append(gains[:at] + [gains[at] + more] + gains[at + 1:])
    return [Row(some) for some in others if 0 < len(some) <= 48] + [gains, str(row), Paper("row", row)] + list(STRANGE)


def bent_steps(steps):
    """Other steps in the place of those of a ring: left out, put in, exchanged, changed, and what is none."""
    steps = [tuple(step) for step in steps]
    others = [steps[::-1], steps + steps, steps + steps[:1], [list(step) for step in steps], steps[1:] + steps[:1]]
    others.append([(place, number, -sign) for place, number, sign in steps[::-1]])
    for at, step in enumerate(steps):
        others.append(steps[:at] + steps[at + 1:])
        others.append(steps[:at] + [step] + steps[at:])
        others.append(steps[at:] + steps[:at])
        if at > 0:
            others.append(steps[:at - 1] + [step, steps[at - 1]] + steps[at + 1:])
        others.extend(steps[:at] + [other] + steps[at + 1:] for other in bent_step(step))
    return others + list(STRANGE)


def bent_step(step):
    """Other values in the place of one step."""
    others = [step[:2], step + (1,), step[::-1], None, 1, "001", Paper("step", *step)]
    for at, number in enumerate(step):
        for other in (number + 1, number - 1, -number, float(number), str(number), None, number == 1, 10 ** 70):
            others.append(step[:at] + (other,) + step[at + 1:])
    return others


def bent_fraction(pair):
    """Other values in the place of a fraction."""
    number, by = pair
    others = [(number + by, by), (number - by, by), (2 * number, 2 * by), (-number, -by), (number, 0), (by, number)]
    others += [(number, by, 1), (number,), (float(number), by), (str(number), by), (None, by), (number, True)]
    return others + [[number, by], (bool(number), by), number, f"{number} {by}", (10 ** 70 + number, by)] + list(STRANGE)


def bent(paper, *bends):
    """Papers of the same class with one part bent, by the functions for each part, which may be None."""
    for at, bend in enumerate(bends):
        if bend is None:
            continue
        for other in bend(paper.parts[at]):
            yield type(paper)(*paper.parts[:at], other, *paper.parts[at + 1:])


def alike(paper):
    """What looks like the paper and is none of its class."""
    class Below(type(paper)):
        pass
    return (Paper(paper.word, *paper.parts), Below(*paper.parts), paper.parts, paper.word, type(paper)) + STRANGE


def bent_spots(value):
    """Other values in the place of any value: bent at each spot within it, and what is none."""
    if type(value) is int:
        yield from bent_numbers(value)
    elif isinstance(value, Row):
        yield from bent_row(value)
    elif isinstance(value, tuple):
        yield from bent_tuple(value)
    else:
        yield from STRANGE


def bent_tuple(value):
    """Other tuples: turned, with an item left out, put in or exchanged, and bent at each spot."""
    yield from STRANGE
    yield from (value[::-1], value + value, value + value[:1], list(value), value[1:] + value[:1], (value,), str(value))
    for at, item in enumerate(value):
        yield value[:at] + value[at + 1:]
        yield value[:at] + (item,) + value[at:]
        if at > 0:
            yield value[:at - 1] + (item, value[at - 1]) + value[at + 1:]
        for other in bent_spots(item):
            yield value[:at] + (other,) + value[at + 1:]


def bent_papers(paper):
    """Papers of the same class, bent at each spot of each of their parts."""
    yield from bent(paper, *[bent_spots] * len(paper.parts))
