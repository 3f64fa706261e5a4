"""Points 2 and 15: saying books made, refused, changed, kept by rows, told backwards, and read."""

import random

from anyseven.errors import BadNumber, BadRow, BadSaying, BadText, Misfit, NoSaying, TooMany, Twice
from anyseven.papers import Paper
from anyseven.rows import Row
from anyseven.rules import Rule
from anyseven.sayingbooks import SayingBook
from anyseven.sayings import Just, Some, Told
from tests.anew_sayings import book_of, keeps, some_books, told
from tests.support import NO_INTEGERS, NO_LISTS, NO_LISTS_OF_INTEGERS, NO_NUMBER_ITEMS, NO_STRINGS, OTHER, Case
from tests.test_rows import NO_ROWS
from tests.test_sayings import NO_BOUND_ITEMS, NO_LENGTH_ITEMS, NO_SAYINGS, NO_WORDS, some_rows

NO_DAYS = NO_INTEGERS + (0, -1, 13, 48, 10 ** 70)
SAYING = Some(2, 1)
THREE = SayingBook(3, [Rule(2, None, -1), Told(0, 3, 1)])
EIGHT = [Rule(2, None, -1), Some(48, 0), Just(13, 1), Told(0, 1, 1), Rule(48, 0), Some(1, None, 9), Just(1, -3), SAYING]
NO_BOOKS = (True, False, None, 0, 3, "3 : -", [], [3, []], (3, ()), {}, OTHER, SayingBook, SAYING, Row([1]), Paper("book", 3, ()))


class Made(Case):

    def test_attributes(self):
        for days in (1, 2, 11, 12):
            for many in (0, 1, 7, 8):
                sayings = EIGHT[:many]
                for book in (SayingBook(days, sayings), SayingBook(sayings=tuple(sayings), days=days)):
                    self.is_same((book.days, book.sayings), (days, tuple(sayings)))

    def test_what_is_passed_is_copied(self):
        sayings = [SAYING]
        book = SayingBook(3, sayings)
        sayings.append(SAYING)
        self.is_same(book.sayings, (SAYING,))

    def test_days(self):
        for value in NO_DAYS:
            self.refuses(BadNumber("days"), SayingBook, value, [SAYING])
            self.refuses(BadNumber("days"), SayingBook, value, None)
            self.refuses(BadNumber("days"), SayingBook, value, [Told(20, 1, 1)] * 9)

    def test_sayings(self):
        for value in NO_LISTS + (SAYING,):
            self.refuses(BadSaying("sayings"), SayingBook, 3, value)
        for value in NO_SAYINGS:
            self.refuses(BadSaying("sayings"), SayingBook, 3, [value])
            self.refuses(BadSaying("sayings"), SayingBook, 3, [Told(3, 1, 1)] * 9 + [value])
        for begin, length in ((0, 4), (3, 1), (2, 2), (47, 48)):
            self.refuses(Misfit("days"), SayingBook, 3, [SAYING, Told(begin, length, 0)])
            self.refuses(Misfit("days"), SayingBook, 3, [SAYING] * 8 + [Told(begin, length, 0)])
        for many in (9, 10, 50):
            self.refuses(TooMany("sayings", 8), SayingBook, 3, [SAYING] * many)
        # Lengths above the days can stand, but for told ones.
        self.is_same(len(SayingBook(1, [Some(48, 1), Just(48, 1), Rule(48, 1)]).sayings), 3)

    def test_equal_books(self):
        self.is_same(THREE == SayingBook(3, (Rule(2, None, -1), Told(0, 3, 1))), True)
        self.is_same(THREE != SayingBook(3, (Rule(2, None, -1), Told(0, 3, 1))), False)
        self.differs(THREE, [
            SayingBook(4, THREE.sayings), SayingBook(3, THREE.sayings[::-1]), SayingBook(3, THREE.sayings[:1]), SayingBook(3, []),
            SayingBook(3, [Some(2, None, -1), Told(0, 3, 1)]), str(THREE), None, THREE.sayings, OTHER])


class Kept(Case):

    def test_against_each_saying(self):
        chance = random.Random(881)
        seen = [0, 0]
        for days, sayings in some_books(882, 150, 12, 8, 10 ** 12):
            book = book_of(days, sayings)
            for gains in some_rows(chance, days, 6):
                broken = [number for number, saying in enumerate(sayings) if not keeps(gains, saying)]
                self.is_same(book.keeps(Row(gains)), not broken)
                self.is_same(book.keeps(row=Row(gains)), not broken)
                self.is_same(book.first_broken(Row(gains)), broken[0] if broken else None)
                self.is_same(book.first_broken(row=Row(gains)), broken[0] if broken else None)
                seen[not broken] += 1
        self.assertGreater(min(seen), 50)

    def test_wrong_rows(self):
        for call in (THREE.keeps, THREE.first_broken):
            for value in NO_ROWS:
                self.refuses(BadRow("row"), call, value)
            for days in (1, 2, 4, 48):
                self.refuses(Misfit("days"), call, Row([0] * days))


class Changed(Case):

    def test_with_saying(self):
        for saying in EIGHT:
            self.is_same(THREE.with_saying(saying).sayings, THREE.sayings + (saying,))
            self.is_same(THREE.with_saying(saying=saying).days, 3)
        full = SayingBook(3, EIGHT)
        for value in NO_SAYINGS:
            self.refuses(BadSaying("saying"), THREE.with_saying, value)
            self.refuses(BadSaying("saying"), full.with_saying, value)
        for begin, length in ((0, 4), (3, 1), (2, 2)):
            self.refuses(Misfit("days"), THREE.with_saying, Told(begin, length, 0))
            self.refuses(Misfit("days"), full.with_saying, Told(begin, length, 0))
        self.refuses(TooMany("sayings", 8), full.with_saying, SAYING)

    def test_without(self):
        full = SayingBook(3, EIGHT)
        for numbers in ([], [0], [7], [3, 1], (7, 0), list(range(8)), [5, 4, 6]):
            right = tuple(saying for number, saying in enumerate(EIGHT) if number not in numbers)
            self.is_same(full.without(numbers).sayings, right)
            self.is_same(full.without(numbers=numbers).days, 3)
        for value in NO_LISTS_OF_INTEGERS:
            self.refuses(BadNumber("numbers"), THREE.without, value)
        for value in (2, -1, 10 ** 70):
            self.refuses(NoSaying(value), THREE.without, [0, 0, value, 9])
        self.refuses(NoSaying(0), SayingBook(3, []).without, [0])
        self.refuses(Twice(1), full.without, [1, 0, 2, 1, 0])
        self.refuses(Twice(0), full.without, [1, 0, 2, 0, 1])
        self.refuses(BadNumber("numbers"), THREE.without, [9, 9, True])

    def test_turned_and_backwards(self):
        chance = random.Random(883)
        for days, sayings in some_books(884, 120, 8, 6, 10 ** 12):
            book = book_of(days, sayings)
            self.is_same(book.turned().sayings, tuple(saying.turned() for saying in book.sayings))
            right = [(word, days - parts[0] - parts[1], *parts[1:]) if word == "told" else (word, *parts) for word, *parts in sayings]
            self.is_same([told(saying) for saying in book.backwards().sayings], right)
            self.is_same((book.turned().turned() == book, book.backwards().backwards() == book), (True, True))
            self.is_same((book.turned().days, book.backwards().days), (days, days))
            for gains in some_rows(chance, days, 5):
                row = Row(gains)
                self.is_same(book.turned().keeps(row.times(-1)), book.keeps(row))
                self.is_same(book.backwards().keeps(row.backwards()), book.keeps(row))

    def test_nothing_changes_the_book(self):
        THREE.with_saying(SAYING), THREE.without([0]), THREE.turned(), THREE.backwards(), THREE.keeps(Row([1, 1, 1]))
        self.is_same(str(THREE), "3 : any 2 - -1 / told 0 3 1 -")


class Texts(Case):

    def test_texts(self):
        for days, sayings in some_books(885, 200, 12, 8, 10 ** 12):
            texts = [" ".join("-" if part is None else str(part) for part in saying) for saying in sayings]
            text = f"{days} : " + (" / ".join(texts) or "-")
            self.is_same(str(book_of(days, sayings)), text)
            self.is_same(SayingBook.read(text), book_of(days, sayings))
            self.is_same(SayingBook.read(text=text).days, days)

    def test_what_is_no_text(self):
        for value in NO_STRINGS + (THREE,):
            self.refuses(BadText(0, 0), SayingBook.read, value)

    def test_each_item_bent(self):
        days = NO_NUMBER_ITEMS + ("0", "13", "48", "-3")
        colon, slash = ("", "-", "::", "/", "1", "x"), ("", "-", "//", ":", "1", "any")
        bounds, length = NO_BOUND_ITEMS, NO_LENGTH_ITEMS
        no_begins = NO_NUMBER_ITEMS + ("3", "4", "48", "-1")
        self.bends(SayingBook.read, "3 : any 2 - -1", [days, colon, NO_WORDS[:1] + NO_WORDS[2:], length, bounds, bounds + ("-",)])
        self.bends(SayingBook.read, "3 : told 1 2 1 -", [days, colon, NO_WORDS[:1], no_begins, length + ("3", "48"), bounds, bounds + ("0",)])
        self.bends(SayingBook.read, "12 : just 48 -7 / some 13 -1 1 / told 11 1 - 5", [
            NO_NUMBER_ITEMS + ("13", "0"), colon, NO_WORDS[2:], length, NO_NUMBER_ITEMS, slash, NO_WORDS, length, bounds,
            bounds + ("-2",), slash, NO_WORDS, NO_NUMBER_ITEMS + ("12", "-1"), length + ("2", "12"), bounds, bounds + ("-",)])

    def test_days_that_leave_no_place_for_a_stretch(self):
        # The days stand; it is the begin, or the length, that cannot stand behind them.
        self.refuses(BadText(0, 3), SayingBook.read, "3 : told 3 1 1 -")
        self.refuses(BadText(0, 4), SayingBook.read, "3 : told 2 2 1 -")
        self.refuses(BadText(0, 4), SayingBook.read, "3 : told 0 4 2 1")
        self.refuses(BadText(0, 8), SayingBook.read, "3 : some 4 1 - / told 3 1 1 -")
        self.refuses(BadText(0, 6), SayingBook.read, "3 : told 0 3 2 1")
        self.is_same(SayingBook.read("3 : told 2 1 1 -").sayings, (Told(2, 1, 1),))

    def test_items_missing_and_too_many(self):
        for text, item in (
                ("", 0), ("3", 1), ("3 :", 2), ("3 : ", 2), ("3 : - ", 3), ("3 : - / any 1 1 -", 3), ("3 : any", 3), ("3 : any 1 1", 5),
                ("3 : any 1 1 - /", 7), ("3 : any 1 1 - / -", 7), ("3 : any 1 1 - /  ", 7), ("3 : any 1 1 - x", 6), ("3 : any 1 1 - ", 6),
                ("3 : just 1 1 -", 5), ("3 : just 1 1 / told 0", 8), ("3  : -", 1), (" 3 : -", 0), ("3 : / -", 2)):
            self.refuses(BadText(0, item), SayingBook.read, text)

    def test_eight_sayings_and_nine(self):
        full = "3 : " + " / ".join(["just 1 1"] * 8)
        self.is_same(len(SayingBook.read(full).sayings), 8)
        for more in (" /", " / just 1 1", " / x", " x", " ", " / just 1 1 / just 1 1"):
            self.refuses(BadText(0, 33), SayingBook.read, full + more)
        mixed = "12 : " + " / ".join(["told 0 1 1 -", "any 1 1 -"] * 4)
        self.is_same(len(SayingBook.read(mixed).sayings), 8)
        self.refuses(BadText(0, len(mixed.split(" "))), SayingBook.read, mixed + " / any 1 1 -")
