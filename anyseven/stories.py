"""Stories of desks: told again, and held beside one another."""

from anyseven.desk import Desk, need_desk
from anyseven.desk_lines import ASKS
from anyseven.errors import BadDesk, BadLine, BadText


def replay(lines):
    """A new Desk that is told these deed lines."""
    if not isinstance(lines, (list, tuple)) or not all([isinstance(line, str) for line in lines]):
        raise BadDesk("lines")
    deeds = lines_ahead_of_asks(lines)
    desk = Desk()
    desk.told(*deeds)
    if len(deeds) < len(lines):
        raise BadLine(len(deeds), BadText(0, 0))
    return desk


def parting(one, other):
    """How many lines the stories of two Desks begin with alike."""
    need_desk(one, "one")
    need_desk(other, "other")
    many = 0
    for line, same in zip(one.story, other.story):
        if line != same:
            break
        many += 1
    return many


def lines_ahead_of_asks(lines):
    """The list of the lines ahead of the first one with the first item of an ask line."""
    deeds = []
    for line in lines:
        if line.split(" ")[0] in ASKS:
            break
        deeds.append(line)
    return deeds
