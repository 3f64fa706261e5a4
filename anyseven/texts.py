"""Items of texts: how they are written, and which of them can stand."""

from anyseven.checks import DIGITS, are_bounds, is_within
from anyseven.errors import BadText

MOST_DIGITS = 60
UNTOLD = "-"


def number_text(number):
    """The digits of an integer."""
    # Python's own str refuses integers of some thousand digits, so long ones are written in pieces.
    rest = abs(number)
    pieces = []
    while rest >= 10 ** 60:
        rest, low = divmod(rest, 10 ** 60)
        pieces.append(str(low).zfill(60))
    pieces.append(str(rest))
    sign = "-" if number < 0 else ""
    return sign + "".join(pieces[::-1])


def bound_text(bound):
    """The item of a bound, told or not."""
    return UNTOLD if bound is None else number_text(bound)


def is_number_text(item):
    """Whether an integer is written just so."""
    digits = item[1:] if item.startswith("-") else item
    if not 1 <= len(digits) <= MOST_DIGITS or not all([digit in DIGITS for digit in digits]):
        return False
    return digits[0] != "0" or item == "0"


def items_of(text):
    """The items of a text, empty ones too."""
    if not isinstance(text, str):
        raise BadText(0, 0)
    return text.split(" ")


def item_at(items, at):
    """The item that stands there; all ahead of it do."""
    if at >= len(items):
        raise BadText(0, len(items))
    return items[at]


def need_item(items, at, mark):
    """Raises BadText if this mark does not stand there."""
    if item_at(items, at) != mark:
        raise BadText(0, at)


def need_end(items, at):
    """Raises BadText if any item stands there."""
    if at < len(items):
        raise BadText(0, at)


def number_at(items, at, least=None, most=None):
    """The integer from least to most that stands there."""
    item = item_at(items, at)
    if not is_number_text(item) or not is_within(int(item), least, most):
        raise BadText(0, at)
    return int(item)


def bound_at(items, at):
    """The bound that stands there, None if it is not told."""
    if item_at(items, at) == UNTOLD:
        return None
    return number_at(items, at)


def bounds_at(items, at):
    """The pair of the low and the high that stand there, one behind the other."""
    low = bound_at(items, at)
    high = bound_at(items, at + 1)
    if not are_bounds(low, high):
        raise BadText(0, at + 1)
    return low, high
