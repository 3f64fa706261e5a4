"""Point 17: deed lines, what they change and answer, and what they refuse, in order."""

from anyseven.books import Book
from anyseven.desk_deeds import changed
from anyseven.errors import (
    BadDesk, BadNumber, BadText, DayError, Misfit, NoName, NoRule, NoSaying, TooMany, Twice)
from anyseven.rows import Row
from anyseven.rules import Rule
from anyseven.sayingbooks import SayingBook
from anyseven.sayings import Just, Some, Told
from anyseven.shelves import Shelf
from tests.anew_desk import ASK_FORMS, DEED_FORMS, right_lines
from tests.support import NO_STRINGS, Case
from tests.test_desk_lines import NO_FIRSTS, NO_NAMES
from tests.test_shelves import NO_SHELVES

A, B = Row([-3, 5, -3]), Row([2, -2])
K = Book(6, [Rule(3, None, -1), Rule(5, 1), Rule(2, 0, 4)])
U = SayingBook(3, [Rule(2, None, -1), Told(0, 3, 1), Some(1, 2)])
SHELF = Shelf([("a", A), ("k", K), ("b", B), ("u", U)])


class Done(Case):

    def told(self, line, answer, name, thing):
        """The line makes this thing of the name, in its place or behind the others, and changes nothing else."""
        later, told = changed(SHELF, line)
        self.is_same((type(later), told), (Shelf, answer))
        pairs = dict(SHELF.things)
        if thing is None:
            del pairs[name]
        else:
            pairs[name] = thing
        self.is_same(later, Shelf(list(pairs.items())))
        self.is_same(changed(line=line, shelf=SHELF), (later, answer))
        self.is_same(SHELF.things, (("a", A), ("k", K), ("b", B), ("u", U)))

    def test_things_put_in(self):
        self.told("row new1 5", "5", "new1", Row([5]))
        self.told("row c -1 0 3 -9", "-7", "c", Row([-1, 0, 3, -9]))
        self.told("row c " + " ".join(["1"] * 48), "48", "c", Row([1] * 48))
        self.told("book c 1", "5", "c", Book(1, []))
        self.told("book c 48", "5", "c", Book(48, []))
        self.told("unseen c 1", "5", "c", SayingBook(1, []))
        self.told("unseen c 12", "5", "c", SayingBook(12, []))
        self.is_same([changed(Shelf(), line)[1] for line in ("book c 1", "unseen c 1", "row c 7")], ["1", "1", "7"])

    def test_rows_joined(self):
        self.told("join c a b", "-1", "c", Row([-3, 5, -3, 2, -2]))
        self.told("join c b a", "-1", "c", Row([2, -2, -3, 5, -3]))
        self.told("join c b b", "0", "c", Row([2, -2, 2, -2]))

    def test_days_later(self):
        self.told("day a 7", "6", "a", Row([-3, 5, -3, 7]))
        self.told("day b 0", "0", "b", Row([2, -2, 0]))
        self.told("day b -" + "9" * 60, str(1 - 10 ** 60), "b", Row([2, -2, 1 - 10 ** 60]))

    def test_rules_and_sayings(self):
        self.told("rule k 4 - 9", "3", "k", K.with_rule(Rule(4, None, 9)))
        self.told("rule k 48 0 0", "3", "k", K.with_rule(Rule(48, 0, 0)))
        self.told("say u any 4 - 9", "3", "u", U.with_saying(Rule(4, None, 9)))
        self.told("say u just 48 -9", "3", "u", U.with_saying(Just(48, -9)))
        self.told("say u told 2 1 0 -", "3", "u", U.with_saying(Told(2, 1, 0)))
        self.is_same(changed(changed(Shelf(), "book c 3")[0], "rule c 1 1 -")[1], "0")
        self.is_same(changed(changed(Shelf(), "unseen c 3")[0], "say c just 1 1")[1], "0")

    def test_lines_stricken(self):
        self.told("strike k 0", "2", "k", K.without([0]))
        self.told("strike k 2 0", "1", "k", K.without([0, 2]))
        self.told("strike k 1 2 0", "0", "k", Book(6, []))
        self.told("strike u 1", "2", "u", U.without([1]))
        self.told("strike u 0 1 2", "0", "u", SayingBook(3, []))

    def test_days_of_books(self):
        for days in (1, 6, 7, 48):
            self.told(f"days k {days}", "3", "k", K.with_days(days))
        self.is_same(changed(changed(Shelf(), "book c 3")[0], "days c 4")[1], "0")

    def test_turned(self):
        self.told("turn a", "3", "a", Row([3, -5, 3]))
        self.told("turn k", "6", "k", K.turned())
        self.told("turn u", "3", "u", U.turned())
        self.is_same(changed(Shelf([("z", Row([0] * 48))]), "turn z")[1], "48")

    def test_dropped(self):
        for name, _ in SHELF.things:
            self.told(f"drop {name}", "3", name, None)
        self.is_same(changed(Shelf([("a", A)]), "drop a"), (Shelf(), "0"))

    def test_names_like_words(self):
        shelf = Shelf()
        for line, answer in (("row row 1 2", "3"), ("book book 4", "2"), ("unseen drop 3", "3"), ("join names row row", "6"),
            ("day names 1", "7"), ("drop drop", "3")):
            shelf, told = changed(shelf, line)
            self.is_same(told, answer)
        self.is_same(shelf.names, ("row", "book", "names"))


class Wrong(Case):

    def refused(self, error, *lines):
        for line in lines:
            self.refuses(error, changed, SHELF, line)
            self.refuses(error, changed, line=line, shelf=SHELF)
        self.is_same(SHELF.things, (("a", A), ("k", K), ("b", B), ("u", U)))

    def test_no_shelves(self):
        for value in NO_SHELVES:
            self.refuses(BadDesk("shelf"), changed, value, "row a 1")
            self.refuses(BadDesk("shelf"), changed, value, None)

    def test_no_lines(self):
        for value in NO_STRINGS:
            self.refuses(BadText(0, 0), changed, SHELF, value)
        for first in NO_FIRSTS:
            self.refused(BadText(0, 0), first, first + " a 1")
        for name in NO_NAMES:
            self.refused(BadText(0, 1), f"row {name} 1", f"drop {name}", f"join {name} x y")
        self.refused(BadText(0, 4), "rule z 3 2 1", "rule a 3 2 1", "rule u 1 - -", "row a 1 2 x", "say k just 1 x", "join a k u z")
        self.refused(BadText(0, 2), "day z x", "strike z -1", "days z", "book a -1", "row a ", "turn z a", "drop z z")

    def test_first_items_of_ask_lines(self):
        for line in right_lines(ASK_FORMS):
            self.refused(BadText(0, 0), line, line + " x y", line.split(" ")[0], line.split(" ")[0] + " ")

    def test_names_that_are_not_kept(self):
        self.refused(NoName("z"), "day z 1", "rule z 3 1 -", "say z just 1 1", "strike z 0", "days z 0", "turn z", "drop z")
        # Ahead of things of another kind, and of a name that is kept.
        self.refused(NoName("z"), "join a z a", "join a k z", "join c z y", "join c u z")
        self.refused(NoName("y"), "join a y z", "join z y z")

    def test_things_of_another_kind(self):
        self.refused(Misfit("kinds"), "join c k a", "join c a u", "join c k u", "day k 1", "day u 1", "rule a 3 1 -", "rule u 3 1 -",
            "say a just 1 1")
        self.refused(Misfit("kinds"), "say k just 1 1", "strike a 0", "days a 3", "days u 3", "strike a 9 9")
        # Ahead of a name that is kept, and of what the classes refuse.
        self.refused(Misfit("kinds"), "join a k a", "join b a u", "days u 0", "days a 49")

    def test_names_that_are_kept(self):
        self.refused(Twice("a"), "row a 1", "book a 3", "unseen a 3", "join a a b", "join a b b")
        self.refused(Twice("k"), "row k 1", "book k 3", "unseen k 3", "join k a b")
        # Ahead of what the classes refuse.
        self.refused(Twice("u"), "book u 0", "book u 49", "unseen u 0", "unseen u 13")
        long = Shelf([("l", Row([0] * 48)), ("m", A)])
        self.refuses(Twice("m"), changed, long, "join m l l")
        self.refuses(TooMany("days", 48), changed, long, "join n l m")

    def test_what_the_classes_refuse(self):
        self.refused(BadNumber("days"), "book c 0", "book c 49", "unseen c 0", "unseen c 13", "days k 0", "days k 49", "book c " + "9" * 60)
        self.refused(NoRule(3), "strike k 3", "strike k 0 0 3 9")
        self.refused(NoSaying(3), "strike u 3", "strike u 0 3 9 9")
        self.refused(Twice(0), "strike k 0 1 0", "strike u 1 0 2 0 1")
        self.refused(Misfit("days"), "say u told 0 4 1 -", "say u told 3 1 1 -")
        full = Shelf([("k", Book(3, [Rule(1, 1)] * 8)), ("u", SayingBook(3, [Rule(1, 1)] * 8)), ("l", Row([0] * 48))])
        self.refuses(TooMany("rules", 8), changed, full, "rule k 1 1 -")
        self.refuses(TooMany("sayings", 8), changed, full, "say u just 1 1")
        self.refuses(Misfit("days"), changed, full, "say u told 3 1 1 -")
        self.refuses(TooMany("days", 48), changed, full, "day l 1")
        self.refuses(TooMany("days", 48), changed, full, "join m l l")
        self.is_same(changed(full, "strike k 7")[1], "7")

    def test_each_deed_line(self):
        for line in right_lines(DEED_FORMS):
            try:
                later, answer = changed(SHELF, line)
            except DayError as error:
                self.assertNotIsInstance(error, (BadText, NoName))
                continue
            self.assertTrue(isinstance(later, Shelf) and isinstance(answer, str))
