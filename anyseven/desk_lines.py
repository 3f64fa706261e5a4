"""Lines of a desk: what they can be, and what their items stand for."""

from anyseven.checks import is_name
from anyseven.errors import BadText
from anyseven.rows import row_at
from anyseven.rules import rule_at
from anyseven.sayings import ITEMS, saying_at
from anyseven.texts import item_at, items_of, need_end, number_at

DEEDS = ("row", "book", "unseen", "join", "day", "rule", "say", "strike", "days", "turn", "drop")
ASKS = (
    "names", "show", "heights", "sums", "sort", "table", "missed", "keeps", "kept", "longest", "pace", "most", "least",
    "follows", "needless", "is", "idle", "quarrels")

# What stands behind the first item of each line. What is in small letters is a name, and tells the kinds of things,
# with blanks between, that can be kept under it.
FORMS = {
    "row": ("NEW", "ROW"), "book": ("NEW", "N"), "unseen": ("NEW", "N"), "join": ("NEW", "row", "row"),
    "day": ("row", "T"), "rule": ("book", "RULE"), "say": ("unseen", "SAYING"), "strike": ("book unseen", "N .."),
    "days": ("book", "N"), "turn": ("row book unseen",), "drop": ("row book unseen",),
    "names": (), "show": ("row book unseen",), "heights": ("row",), "sums": ("row", "N"), "sort": ("row", "N"),
    "table": ("row",), "missed": ("row",), "keeps": ("row", "book unseen"), "kept": ("book unseen",),
    "longest": ("book",), "pace": ("book",), "most": ("book", "N", "N"), "least": ("book", "N", "N"),
    "follows": ("book", "RULE"), "needless": ("book",), "is": ("unseen", "SAYING"), "idle": ("unseen",),
    "quarrels": ("book unseen",)}


def read_line(line):
    """The tuple of the first item of any line, and of what the others stand for."""
    items = items_of(line)
    if items[0] not in FORMS:
        raise BadText(0, 0)
    values = [items[0]]
    at = 1
    for form in FORMS[items[0]]:
        found, at = values_at(items, at, form)
        values.extend(found)
    need_end(items, at)
    return tuple(values)


def values_at(items, at, form):
    """The pair of the list of what stands there in this form, and of where the next form stands."""
    if form == "N":
        return [number_at(items, at, 0)], at + 1
    if form == "T":
        return [number_at(items, at)], at + 1
    if form == "N ..":
        return [number_at(items, place, 0) for place in range(at, max(at + 1, len(items)))], len(items)
    if form == "ROW":
        return [row_at(items, at)], len(items)
    if form == "RULE":
        return [rule_at(items, at)], at + 3
    if form == "SAYING":
        return [saying_at(items, at)], at + ITEMS[items[at]]
    return [name_at(items, at)], at + 1


def name_at(items, at):
    """The name that stands there."""
    if not is_name(item_at(items, at)):
        raise BadText(0, at)
    return items[at]


def need_first(line, words):
    """Raises BadText for what is no line that begins with one of these words."""
    if items_of(line)[0] not in words:
        raise BadText(0, 0)
