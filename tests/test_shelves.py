"""Points 2 and 17: what a desk keeps, under names, in their order."""

from anyseven.books import Book
from anyseven.errors import BadDesk, NoName, Twice
from anyseven.papers import Paper
from anyseven.rows import Row
from anyseven.rules import Rule
from anyseven.sayingbooks import SayingBook
from anyseven.sayings import Some
from anyseven.shelves import Shelf
from tests.support import NO_LISTS, OTHER, Alike, Case
from tests.test_desk_lines import NO_NAMES

ROW, BOOK, UNSEEN = Row([1, -2]), Book(6, [Rule(3, 1)]), SayingBook(3, [Some(1, 0)])
THINGS = (("a", ROW), ("k", BOOK), ("u", UNSEEN))
NO_SHELVES = (True, False, None, 0, "a", [], [("a", ROW)], (), THINGS, {}, OTHER, Shelf, ROW, Paper("shelf"))


class Made(Case):

    def test_attributes(self):
        for many in range(4):
            for shelf in (Shelf(THINGS[:many]), Shelf(things=list(map(list, THINGS[:many])))):
                self.is_same((shelf.things, shelf.names), (THINGS[:many], ("a", "k", "u")[:many]))
        self.is_same((Shelf().things, Shelf().names), ((), ()))
        for pair, thing in zip(Shelf(THINGS).things, (ROW, BOOK, UNSEEN)):
            self.assertIs(pair[1], thing)

    def test_the_order_is_kept(self):
        self.is_same(Shelf(THINGS[::-1]).names, ("u", "k", "a"))
        self.is_same(Shelf([("b", ROW), ("a", ROW)]).things, (("b", ROW), ("a", ROW)))
        many = [(f"a{number}", ROW) for number in range(500)]
        self.is_same(Shelf(many).things, tuple(many))

    def test_what_is_passed_is_copied(self):
        things = [["a", ROW]]
        shelf = Shelf(things)
        things[0][0] = "b"
        things.append(["c", ROW])
        self.is_same((shelf.things, shelf.names), ((("a", ROW),), ("a",)))

    def test_what_makes_no_shelf(self):
        for value in NO_LISTS + (Shelf(), ROW):
            self.refuses(BadDesk("things"), Shelf, value)
        for value in NO_LISTS + (ROW, ("a",), ("a", ROW, 1), ["a", None], ("a", "1 -2"), ("a", Row), ("a", [1, -2]), ("a", Rule(3, 1)),
            (ROW, "a"), ("a", OTHER)):
            self.refuses(BadDesk("things"), Shelf, [value])
            self.refuses(BadDesk("things"), Shelf, [("a", ROW), ("a", BOOK), value])
        for name in NO_NAMES + (1, None, True, b"a", ("a",), ["a"]):
            self.refuses(BadDesk("things"), Shelf, [("a", ROW), (name, ROW)])

    def test_names_kept_twice(self):
        self.refuses(Twice("a"), Shelf, [("a", ROW), ("a", ROW)])
        self.refuses(Twice("b"), Shelf, [("a", ROW), ("b", ROW), ("c", BOOK), ("b", BOOK), ("a", UNSEEN)])

    def test_equal_shelves(self):
        self.is_same(Shelf(THINGS) == Shelf(list(THINGS)), True)
        self.is_same(Shelf(THINGS) != Shelf(list(THINGS)), False)
        self.is_same(Shelf() == Shelf([]), True)
        self.differs(Shelf(THINGS), [Shelf(THINGS[::-1]), Shelf(THINGS[:2]), Shelf(), THINGS, None, Shelf([("b", ROW), *THINGS[1:]]), OTHER])
        self.differs(Shelf([("a", ROW)]), [Shelf([("a", Row([1, 2]))]), Shelf([("a", BOOK)]), ROW])


class Kept(Case):

    def test_things(self):
        shelf = Shelf(THINGS)
        for name, thing in THINGS:
            self.assertIs(shelf.thing(name), thing)
            self.assertIs(shelf.thing(name=name), thing)

    def test_names_that_are_not_kept(self):
        for shelf in (Shelf(THINGS), Shelf()):
            for value in NO_NAMES + ("b", "aa", "ku", 0, 1, True, None, 2.5, b"a", [], ["a"], ("a",), ("a", ROW), {}, OTHER, ROW, Shelf):
                self.refuses(NoName(value), shelf.thing, value)
        self.refuses(NoName("a"), Shelf().thing, name="a")
        with self.assertRaises(NoName):
            Shelf(THINGS).thing(Alike())
