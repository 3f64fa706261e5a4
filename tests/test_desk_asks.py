"""Point 17: ask lines, what they answer, and what they refuse, in order."""

import random

from anyseven.books import Book
from anyseven.bounds import greatest, least
from anyseven.desk_asks import answer_of
from anyseven.errors import (
    BadDesk, BadNumber, BadText, DayError, Impossible, Misfit, NoName, TooMany)
from anyseven.follows import follows
from anyseven.idle import idle, saying_quarrels
from anyseven.kept import kept
from anyseven.longest import longest
from anyseven.needless import needless
from anyseven.paces import paces, simplest_pace
from anyseven.quarrels import quarrels
from anyseven.rows import Row
from anyseven.rules import Rule
from anyseven.sayingbooks import SayingBook
from anyseven.sayings import Just, Some, Told
from anyseven.shelves import Shelf
from anyseven.sorts import table_words
from anyseven.unseen import judged, some_row
from tests.anew_desk import ASK_FORMS, DEED_FORMS, right_lines
from tests.anew_levels import signs_of
from tests.anew_sayings import book_of, some_books
from tests.support import NO_STRINGS, Case
from tests.test_books import some_book
from tests.test_desk_lines import NO_FIRSTS, NO_NAMES
from tests.test_rows import some_rows
from tests.test_shelves import NO_SHELVES

A, Z = Row([-3, 5, -3, -3, 5, -3]), Row([-1, 3, -1, -3, 0, 3, -1])
K = Book(6, [Rule(3, None, -1), Rule(5, 1)])
U = SayingBook(3, [Rule(2, None, -1), Told(0, 3, 1)])
SHELF = Shelf([("a", A), ("k", K), ("u", U), ("z", Z), ("k7", K.with_days(7)), ("n", SayingBook(2, [Rule(1, 1), Told(0, 2, None, 0)]))])


def text_of(numbers):
    return " ".join(str(number) for number in numbers) or "-"


class Answers(Case):

    def asked(self, shelf, line, answer):
        self.is_same(answer_of(shelf, line), answer)
        self.is_same(answer_of(line=line, shelf=shelf), answer)

    def test_names_and_things(self):
        self.asked(SHELF, "names", "a k u z k7 n")
        self.asked(Shelf(), "names", "-")
        self.asked(SHELF, "show a", "row -3 5 -3 -3 5 -3")
        self.asked(SHELF, "show k", "book 6 : 3 - -1 / 5 1 -")
        self.asked(SHELF, "show u", "unseen 3 : any 2 - -1 / told 0 3 1 -")
        bare = Shelf([("k", Book(48, [])), ("u", SayingBook(12, [])), ("r", Row([0]))])
        self.is_same([answer_of(bare, line) for line in ("show k", "show u", "show r")], ["book 48 : -", "unseen 12 : -", "row 0"])

    def test_rows(self):
        for gains in some_rows():
            shelf, row = Shelf([("r", Row(gains))]), Row(gains)
            if max(map(abs, gains)) > 10 ** 100:
                continue
            self.asked(shelf, "show r", "row " + text_of(gains))
            self.asked(shelf, "heights r", text_of(sum(gains[:place]) for place in range(len(gains) + 1)))
            words = table_words(row)
            for length in range(1, len(gains) + 1):
                sums = [sum(gains[begin:begin + length]) for begin in range(len(gains) - length + 1)]
                self.asked(shelf, f"sums r {length}", text_of(sums))
                self.asked(shelf, f"sort r {length}", words[length - 1])
            lots = [[at + 1 for at, word in enumerate(words) if word == told] for told in ("gains", "loses")]
            self.asked(shelf, "table r", " / ".join(map(text_of, lots)))
            if sum(gains) == 0:
                self.asked(shelf, "missed r", text_of(length for length, _ in signs_of(gains)))
            else:
                self.refuses(Misfit("level"), answer_of, shelf, "missed r")

    def test_rows_told(self):
        self.asked(SHELF, "table a", "5 / 3 6")
        self.asked(SHELF, "table z", "6 / 4")
        self.asked(SHELF, "missed z", "4 6")
        flat = Shelf([("r", Row([0, 0])), ("g", Row([1])), ("l", Row([-1]))])
        self.is_same([answer_of(flat, f"table {name}") for name in "rgl"], ["- / -", "1 / -", "- / 1"])
        self.asked(flat, "missed r", "-")
        self.asked(flat, "heights r", "0 0 0")
        self.asked(Shelf([("r", Row([10 ** 300, -10 ** 300]))]), "heights r", "0 1" + "0" * 300 + " 0")

    def test_rows_that_keep_books(self):
        self.asked(SHELF, "keeps a k", "yes")
        self.asked(SHELF, "keeps z k7", "no")
        shelf = Shelf([("r", Row([2, -3, 2])), ("s", Row([1, 1, 1])), ("u", U), ("k", Book(3, [Rule(3, 3)]))])
        self.is_same([answer_of(shelf, line) for line in ("keeps r u", "keeps s u", "keeps r k", "keeps s k")], ["yes", "no", "no", "yes"])

    def test_books(self):
        chance = random.Random(971)
        seen = set()
        for _ in range(150):
            book = some_book(chance)
            shelf = Shelf([("r", Row([0])), ("k", book)])
            answers = {line: answer_of(shelf, line) for line in ("kept k", "longest k", "pace k", "quarrels k")}
            told = longest(book.rules)
            self.is_same(answers["kept k"], "kept" if kept(book) else "ring")
            self.is_same(answers["longest k"], str(told.days) if told else "forever")
            self.is_same(answers["pace k"], text_of(simplest_pace(book.rules)) if paces(book.rules) else "clash")
            self.is_same(answers["quarrels k"], " / ".join(map(text_of, quarrels(book))) or "-")
            seen |= {answer[:4] for answer in answers.values()}
            begin = chance.randrange(book.days)
            length = chance.randint(1, book.days - begin)
            rule = Rule(length, None, 2)
            lines = (f"most k {begin} {length}", f"least k {begin} {length}", f"follows k {rule}", "needless k")
            if not kept(book):
                for line in lines:
                    self.refuses(Impossible(kept(book)), answer_of, shelf, line)
                continue
            bounds = [call(book, begin, length) for call in (greatest, least)]
            right = [str(paper.number) if paper else "-" for paper in bounds]
            right += ["follows" if follows(book, rule) else "breaks", text_of(needless(book))]
            self.is_same([answer_of(shelf, line) for line in lines], right)
            seen |= set(right)
        self.assertTrue({"kept", "ring", "fore", "clas", "follows", "breaks", "-"} <= seen)

    def test_books_told(self):
        for line, answer in (
                ("kept k", "kept"), ("kept k7", "ring"), ("longest k", "6"), ("longest k7", "6"), ("pace k", "clash"), ("quarrels k", "-"),
                ("quarrels k7", "0 1"), ("most k 2 1", "-3"), ("least k 0 3", "-"), ("needless k", "-"), ("follows k 8 1 -", "follows"),
                ("follows k 1 - 4", "breaks"), ("follows k 3 - -1", "follows")):
            self.asked(SHELF, line, answer)
        more = Shelf([("k", Book(4, [Rule(2, None, 3), Rule(3, 4), Rule(1, 1, 2)])), ("e", Book(24, [])), ("q", Book(4, [Rule(2, None, -1),
            Rule(3, 1), Rule(4, 0)]))])
        for line, answer in (
                ("needless k", "2"), ("most k 0 1", "2"), ("least k 0 1", "1"), ("pace k", "3 2"), ("longest k", "forever"), ("longest e", "forever"),
                ("pace e", "0 1"), ("quarrels e", "-"), ("needless e", "-"), ("most e 0 24", "-"), ("quarrels q", "0 1 / 0 2"), ("kept e", "kept")):
            self.asked(more, line, answer)
        self.asked(Shelf([("k", Book(1, [Rule(1, 1), Rule(1, None, 0)]))]), "longest k", "0")

    def test_saying_books(self):
        seen = set()
        for days, sayings in some_books(972, 120, 3, 4, 12):
            book = book_of(days, sayings)
            shelf = Shelf([("u", book)])
            word = some_row(book).word
            self.asked(shelf, "kept u", word)
            self.asked(shelf, "quarrels u", " / ".join(map(text_of, saying_quarrels(book))) or "-")
            seen.add(word)
            for call, line in ((idle, "idle u"), (lambda some: judged(some, Just(1, 0)), "is u just 1 0")):
                try:
                    right = call(book)
                except DayError as error:
                    self.refuses(error, answer_of, shelf, line)
                    continue
                self.asked(shelf, line, text_of(right) if isinstance(right, tuple) else right.word)
                seen.add(answer_of(shelf, line)[:1])
        self.assertTrue({"found", "barred", "a", "n", "o", "-", "0"} <= seen)

    def test_saying_books_told(self):
        for line, answer in (
                ("kept u", "found"), ("kept n", "barred"), ("is u some 1 2 -", "always"), ("is u any 1 1 -", "never"), ("is u told 1 1 - -4", "open"),
                ("idle u", "-"), ("quarrels u", "-"), ("quarrels n", "0 1")):
            self.asked(SHELF, line, answer)
        more = Shelf([("u", SayingBook(4, [Rule(1, 0), Some(2, 0), Rule(2, 0)])), ("n", SayingBook(3, [Some(4, 0), Just(4, 0), Rule(1, 1),
            Rule(1, None, 0)]))])
        self.asked(more, "idle u", "1 2")
        self.asked(more, "quarrels n", "0 / 1 / 2 3")

    def test_nothing_changes_the_shelf(self):
        before = SHELF.things
        for line in right_lines(ASK_FORMS):
            try:
                self.assertIsInstance(answer_of(SHELF, line), str)
            except DayError as error:
                self.assertNotIsInstance(error, (BadText, NoName))
        self.is_same(SHELF.things, before)


class Wrong(Case):

    def refused(self, error, *lines):
        for line in lines:
            self.refuses(error, answer_of, SHELF, line)
            self.refuses(error, answer_of, line=line, shelf=SHELF)

    def test_no_shelves(self):
        for value in NO_SHELVES:
            self.refuses(BadDesk("shelf"), answer_of, value, "names")
            self.refuses(BadDesk("shelf"), answer_of, value, None)

    def test_no_lines(self):
        for value in NO_STRINGS:
            self.refuses(BadText(0, 0), answer_of, SHELF, value)
        for first in NO_FIRSTS:
            self.refused(BadText(0, 0), first, first + " a 1")
        for name in NO_NAMES:
            self.refused(BadText(0, 1), f"show {name}", f"sums {name} 0", f"keeps {name} x")
            self.refused(BadText(0, 2), f"keeps y {name}")
        self.refused(BadText(0, 1), "names ", "names a", "show", "heights ", "kept")
        self.refused(BadText(0, 2), "sums q x", "sort a -1", "show a a", "missed u 3", "keeps a", "follows a any 3 1 -", "is k 3 1 -")

    def test_first_items_of_deed_lines(self):
        for line in right_lines(DEED_FORMS):
            self.refused(BadText(0, 0), line, line + " x y", line.split(" ")[0], line.split(" ")[0] + " ")

    def test_names_that_are_not_kept(self):
        for word, forms in ASK_FORMS.items():
            for line in right_lines({word: forms}):
                items = line.split(" ")
                if len(items) > 1 and word != "keeps":
                    self.refused(NoName("q"), " ".join([word, "q"] + items[2:]))
        self.refused(NoName("q"), "keeps q k", "keeps q r", "keeps k q", "keeps u q")
        self.refused(NoName("r"), "keeps r q", "keeps a r")

    def test_things_of_another_kind(self):
        self.refused(Misfit("kinds"), *[f"{word} {name}" for word in ("heights", "table", "missed") for name in "ku"])
        self.refused(Misfit("kinds"), *[f"{word} {name} 0" for word in ("sums", "sort") for name in "ku"])
        self.refused(Misfit("kinds"), *[f"{word} {name}" for word in ("longest", "pace", "needless") for name in "au"])
        self.refused(Misfit("kinds"), *[f"{word} {name} 9 9" for word in ("most", "least") for name in "au"])
        self.refused(Misfit("kinds"), "follows a 3 1 -", "follows u 3 1 -", "is a just 1 1", "is k just 1 1", "idle a", "idle k", "kept a",
            "quarrels a")
        self.refused(Misfit("kinds"), "keeps k k", "keeps u k", "keeps a a", "keeps k a", "keeps u a")

    def test_what_is_asked_refuses(self):
        self.refused(BadNumber("length"), "sums a 0", "sums a 7", "sort a 0", "sort a 7", "most k 0 7", "most k 0 0", "least k 5 2",
            "sums a " + "9" * 60)
        self.refused(BadNumber("begin"), "most k 6 1", "least k 6 0", "most k7 7 1")
        self.refused(Misfit("level"), "missed a")
        self.refused(Misfit("days"), "keeps a k7", "keeps z k", "keeps a u", "is u told 0 4 1 -", "is u told 3 1 1 -")
        self.refused(Impossible(kept(K.with_days(7))), "most k7 0 1", "least k7 0 1", "follows k7 1 1 -", "follows k7 48 1 -", "needless k7")
        self.refused(Impossible(some_row(SHELF.thing("n"))), "idle n", "is n just 1 1")
        self.refused(BadNumber("begin"), "most k7 7 9")
        large = Shelf([("k", Book(25, [Rule(25, 1)])), ("u", SayingBook(12, [Just(1, 0), Just(2, 0)]))])
        for error, line in (
                (TooMany("days", 24), "quarrels k"), (TooMany("length", 24), "longest k"), (TooMany("choices", 400), "kept u"),
                (TooMany("choices", 400), "idle u"),
                (TooMany("choices", 400), "quarrels u"), (TooMany("choices", 400), "is u just 3 0"), (Misfit("days"), "is u told 0 13 1 -")):
            self.refuses(error, answer_of, large, line)
        self.is_same(answer_of(large, "pace k"), "1 1")
