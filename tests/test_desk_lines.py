"""Points 2 and 17: lines of a desk, read and refused."""

from anyseven.checks import is_name
from anyseven.desk_lines import ASKS, DEEDS, read_line
from anyseven.errors import BadText
from anyseven.rows import Row
from anyseven.rules import Rule
from anyseven.sayings import Just, Some, Told, read_saying
from tests.anew_desk import ASK_FORMS, DEED_FORMS, FORMS, right_lines, slots_of
from tests.support import NO_NUMBER_ITEMS, NO_STRINGS, Case
from tests.test_sayings import NO_BEGIN_ITEMS, NO_BOUND_ITEMS, NO_LENGTH_ITEMS, NO_WORDS

NO_NAMES = ("", "A", "1a", "a-b", "aB", "a_b", "a.b", "\u00e9", "a\u00e9", "a" * 13, "9", "-", "a\n", "1", "a" * 200)
NO_FIRSTS = ("", "Row", "rows", "x", "1", "-", "row\n", "name", "undo", "redo", "told", "a", "/", "unseen1")
WRONG = {
    "first": NO_FIRSTS, "name": NO_NAMES, "N": NO_NUMBER_ITEMS + ("-1", "-5"), "T": NO_NUMBER_ITEMS, "length": NO_LENGTH_ITEMS,
    "begin": NO_BEGIN_ITEMS, "low": NO_BOUND_ITEMS, "high": NO_BOUND_ITEMS, "word": NO_WORDS}


def value_of(slot, text):
    """What the text of a slot stands for."""
    if slot in ("N", "T"):
        return [int(text)]
    if slot == "NS":
        return [int(item) for item in text.split(" ")]
    if slot == "ROW":
        return [Row([int(item) for item in text.split(" ")])]
    if slot == "RULE":
        return [Rule.read(text)]
    return [read_saying(text)] if slot == "SAYING" else [text]


class Words(Case):

    def test_in_the_order_told(self):
        self.is_same(DEEDS, tuple(DEED_FORMS))
        self.is_same(ASKS, tuple(ASK_FORMS))
        self.is_same((len(DEEDS), len(ASKS), len(set(DEEDS + ASKS))), (11, 18, 29))


class Read(Case):

    def test_each_line(self):
        count = 0
        for line in right_lines():
            count += 1
            items = line.split(" ")
            right, at = [items[0]], 1
            for slot in FORMS[items[0]]:
                many = len(items) - at if slot in ("NS", "ROW", "RULE", "SAYING") else 1
                right += value_of(slot, " ".join(items[at:at + many]))
                at += many
            self.is_same(read_line(line), tuple(right))
            self.is_same(read_line(line=line), tuple(right))
        self.assertGreater(count, 60)

    def test_values(self):
        self.is_same(read_line("row a 1 -2"), ("row", "a", Row([1, -2])))
        self.is_same(read_line("join a12 a a"), ("join", "a12", "a", "a"))
        self.is_same(read_line("strike k 0 3 0"), ("strike", "k", 0, 3, 0))
        self.is_same(read_line("say u just 3 -7"), ("say", "u", Just(3, -7)))
        self.is_same(read_line("is u told 47 48 - 5"), ("is", "u", Told(47, 48, None, 5)))
        self.is_same(read_line("is u some 2 - 0"), ("is", "u", Some(2, None, 0)))
        self.is_same(read_line("follows k 48 0 0"), ("follows", "k", Rule(48, 0, 0)))
        self.is_same(read_line("most k 0 0"), ("most", "k", 0, 0))
        self.is_same(read_line("names"), ("names",))
        self.is_same(read_line("day a -" + "9" * 60), ("day", "a", 1 - 10 ** 60))
        # The number of days is looked at by the classes.
        self.is_same(read_line("book k " + "9" * 60), ("book", "k", 10 ** 60 - 1))
        self.is_same(read_line("unseen k 0"), ("unseen", "k", 0))

    def test_each_item_bent(self):
        count = 0
        for line in right_lines():
            items, kinds = line.split(" "), slots_of(line)
            self.assertEqual(len(items), len(kinds))
            for at, kind in enumerate(kinds):
                for wrong in WRONG[kind]:
                    count += 1
                    self.refuses(BadText(0, at), read_line, " ".join(items[:at] + [wrong] + items[at + 1:]))
                    self.refuses(BadText(0, at), read_line, " ".join(items[:at] + [wrong]))
                    self.refuses(BadText(0, at), read_line, " ".join(items[:at] + [wrong] * 3))
        self.assertGreater(count, 4000)

    def test_items_missing(self):
        for line in right_lines():
            items = line.split(" ")
            for many in range(1, len(items)):
                cut = " ".join(items[:many])
                if items[0] in ("row", "strike") and many > 2:
                    self.is_same(len(read_line(cut)) > 2, True)
                else:
                    self.refuses(BadText(0, many), read_line, cut)
                    self.refuses(BadText(0, many), read_line, cut + " ")
            self.refuses(BadText(0, 0), read_line, " " + line)

    def test_items_too_many(self):
        for line in right_lines():
            many = len(line.split(" "))
            for more in (" ", " x", " /", "  1", " :"):
                self.refuses(BadText(0, many), read_line, line + more)
            if line.split(" ")[0] not in ("row", "strike"):
                for more in (" 1", " a", " -", " 1 1 1"):
                    self.refuses(BadText(0, many), read_line, line + more)

    def test_long_rows(self):
        self.is_same(read_line("row a " + " ".join(["1"] * 48))[2].days, 48)
        for more in (" 1", " x", " ", " 1 1 1"):
            self.refuses(BadText(0, 50), read_line, "row a " + " ".join(["1"] * 48) + more)
        self.is_same(len(read_line("strike a " + " ".join(["7"] * 5000))), 5002)

    def test_bounds_in_the_line(self):
        for line, item in (
                ("rule k 3 2 1", 4), ("rule k 3 - -", 4), ("rule k 49 1 -", 2), ("follows k 3 2 1", 4), ("say u any 3 2 1", 5),
                ("say u some 3 - -", 5),
                ("say u told 0 1 5 4", 6), ("say u told 48 1 5 -", 3), ("is u told 0 49 5 -", 4), ("is u just 3 -", 4), ("is u just 3 1 -", 5),
                ("say u 3 - -1", 2), ("rule k any 3 - -1", 2), ("is u rule 3 1 -", 2)):
            self.refuses(BadText(0, item), read_line, line)

    def test_names(self):
        for name in ("a", "z9", "row", "names", "a" * 12, "abcdefghijkl", "x0123456789a"):
            self.assertTrue(is_name(name))
            self.is_same(read_line("drop " + name), ("drop", name))
            self.is_same(read_line(f"join {name} {name} {name}"), ("join", name, name, name))
        for name in NO_NAMES:
            self.refuses(BadText(0, 1), read_line, "drop " + name)
            self.refuses(BadText(0, 2), read_line, "keeps a " + name)
            self.refuses(BadText(0, 3), read_line, "join b a " + name)

    def test_what_is_no_line(self):
        for value in NO_STRINGS + (Row([1]), ("row", "a", 1)):
            self.refuses(BadText(0, 0), read_line, value)
        for line in ("", " ", "row", "Row a 1", "row\ta\t1", "names\n", "row a"):
            self.refuses(BadText(0, {"row": 1, "row a": 2}.get(line, 0)), read_line, line)
