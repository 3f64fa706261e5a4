"""The two tables of point 17, told once more for the tests: the forms of all lines, and right ones of each."""

# The first items and what stands behind them. R, B, U: names of a row, a book, a saying book; BU, RBU: of one of these.
DEED_FORMS = {
    "row": ("NEW", "ROW"), "book": ("NEW", "N"), "unseen": ("NEW", "N"), "join": ("NEW", "R", "R"), "day": ("R", "T"),
    "rule": ("B", "RULE"), "say": ("U", "SAYING"), "strike": ("BU", "NS"), "days": ("B", "N"), "turn": ("RBU",), "drop": ("RBU",)}
ASK_FORMS = {
    "names": (), "show": ("RBU",), "heights": ("R",), "sums": ("R", "N"), "sort": ("R", "N"), "table": ("R",), "missed": ("R",),
    "keeps": ("R", "BU"), "kept": ("BU",), "longest": ("B",), "pace": ("B",), "most": ("B", "N", "N"), "least": ("B", "N", "N"),
    "follows": ("B", "RULE"), "needless": ("B",), "is": ("U", "SAYING"), "idle": ("U",), "quarrels": ("BU",)}
FORMS = {**DEED_FORMS, **ASK_FORMS}
NAMES = {"NEW": "new1", "R": "a", "B": "k", "U": "u", "BU": "k", "RBU": "a"}
# Texts in the place of what is no name.
TEXTS = {
    "N": ("0", "3", "12"), "T": ("0", "-7", "12"), "NS": ("0", "1 0", "3 3 3", "0 1 2 3 4 5 6 7 8"), "ROW": ("5", "-1 0 3"),
    "RULE": ("3 - -1", "48 1 -", "2 0 5"), "SAYING": ("any 3 - -1", "some 2 1 -", "just 4 -7", "told 47 48 0 1")}


def right_lines(forms=FORMS):
    """A line of each form and each of its texts."""
    for word, slots in forms.items():
        lines = [word]
        for slot in slots:
            lines = [line + " " + text for line in lines for text in (TEXTS[slot] if slot in TEXTS else (NAMES[slot],))]
        yield from lines


def slots_of(line):
    """For each item of a right line, what it is: the first one, a name, a number, or an item of a text."""
    items = line.split(" ")
    kinds = ["first"]
    for slot in FORMS[items[0]]:
        at = len(kinds)
        if slot in NAMES:
            kinds.append("name")
        elif slot in ("N", "T"):
            kinds.append(slot)
        elif slot == "NS":
            kinds += ["N"] * (len(items) - at)
        elif slot == "ROW":
            kinds += ["T"] * (len(items) - at)
        elif slot == "RULE":
            kinds += ["length", "low", "high"]
        else:
            kinds += {
                "any": ["word", "length", "low", "high"], "some": ["word", "length", "low", "high"], "just": ["word", "length", "T"],
                "told": ["word", "begin", "length", "low", "high"]}[items[at]]
    return kinds
