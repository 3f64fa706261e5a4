"""Points 2 and 5: books made, changed, refused, kept, turned, told together, read."""

import random
from itertools import product

from anyseven.books import Book, Empty
from anyseven.errors import (
    BadNumber, BadRow, BadRule, BadText, Impossible, Misfit, NoRule, TooMany, Twice)
from anyseven.rows import Row
from anyseven.rules import Rule
from tests.support import NO_INTEGERS, NO_LISTS, NO_LISTS_OF_INTEGERS, NO_NUMBER_ITEMS, NO_STRINGS, OTHER, Case
from tests.test_rows import NO_ROWS
from tests.test_rules import NO_RULES, keeps

HUGE = 10 ** 5000
RULE = Rule(3, None, -1)
OTHERS = [Rule(5, 1), Rule(3, -9, 9), Rule(48, 0), Rule(3, None, -1), Rule(1, 2, 2), Rule(2, None, 10 ** 9), Rule(4, -1)]
NO_BOOKS = (True, False, None, 0, 6, "6 : -", [], [6, []], (6, ()), {}, OTHER, Book, RULE, Row([1]))


def told(book):
    return (book.days, [(rule.length, rule.low, rule.high) for rule in book.rules])


def some_book(chance, most_days=6, highs=(1, 2, 4)):
    rules = []
    for _ in range(chance.randint(0, 8)):
        low = chance.choice((None, -3, -1, 0, 1))
        high = chance.choice(highs if low is None else [None] + [high for high in highs if high >= low])
        rules.append(Rule(chance.randint(1, most_days + 1), low, high))
    return Book(chance.randint(1, most_days), rules)


class Made(Case):

    def test_attributes(self):
        for days in (1, 2, 47, 48):
            for many in (0, 1, 7, 8):
                rules = (OTHERS + [RULE])[:many]
                for book in (Book(days, rules), Book(rules=tuple(rules), days=days)):
                    self.is_same((book.days, book.rules), (days, tuple(rules)))

    def test_what_is_passed_is_copied(self):
        rules = [RULE]
        book = Book(4, rules)
        rules.append(Rule(1, 1))
        rules[0] = Rule(2, 2)
        self.is_same(book.rules, (RULE,))

    def test_days_that_are_none(self):
        for value in NO_INTEGERS + (0, -1, 49, HUGE):
            self.refuses(BadNumber("days"), Book, value, [])
            self.refuses(BadNumber("days"), Book, value, None)
            self.refuses(BadNumber("days"), Book, value, [RULE] * 9)

    def test_rules_that_are_none(self):
        for value in NO_LISTS + (RULE, Book(1, [])):
            self.refuses(BadRule("rules"), Book, 4, value)
        for value in NO_RULES + (Book(1, []),):
            self.refuses(BadRule("rules"), Book, 4, [value])
            self.refuses(BadRule("rules"), Book, 4, [RULE, value])
            self.refuses(BadRule("rules"), Book, 4, (RULE,) * 8 + (value,))

    def test_a_ninth_rule(self):
        self.assertEqual(len(Book(4, [RULE] * 8).rules), 8)
        self.refuses(TooMany("rules", 8), Book, 4, [RULE] * 9)
        self.refuses(TooMany("rules", 8), Book, 4, (RULE,) * 30)

    def test_equal_books(self):
        one, two = Rule(3, 1), Rule(5, None, 2)
        book = Book(4, [one, two])
        self.is_same(book == Book(4, (Rule(3, 1), Rule(5, None, 2))), True)
        self.is_same(book != Book(4, (Rule(3, 1), Rule(5, None, 2))), False)
        self.differs(book, [
            Book(5, [one, two]), Book(4, [two, one]), Book(4, [one]), Book(4, [one, two, two]), Book(4, []), 4, None,
            (4, (one, two)), "4 : 3 1 - / 5 - 2", OTHER, one])


class KeptByRows(Case):

    def test_kept_and_broken(self):
        chance = random.Random(7)
        seen = {None: 0}
        for _ in range(1500):
            book = some_book(chance)
            gains = [chance.randint(-2, 2) for _ in range(book.days)]
            right = None
            for number, (length, low, high) in enumerate(told(book)[1]):
                kept, begin = keeps(gains, length, low, high)
                if not kept:
                    right = (number, begin)
                    break
            self.is_same(book.first_broken(Row(gains)), right)
            self.is_same(book.keeps(row=Row(gains)), right is None)
            self.is_same(book.turned().first_broken(row=Row(gains).times(-1)), right)
            seen[right] = seen.get(right, 0) + 1
        self.assertTrue(seen[None] > 200 and len(seen) > 12, seen)

    def test_no_rules_and_long_rules(self):
        for book in (Book(3, []), Book(3, [Rule(4, 9, 9), Rule(48, 1)])):
            self.is_same(book.keeps(Row([5, -5, 5])), True)
            self.is_same(book.first_broken(Row([5, -5, 5])), None)
        self.is_same(Book(3, [Rule(4, 9), Rule(3, 9)]).first_broken(Row([1, 1, 1])), (1, 0))
        self.is_same(Book(48, [Rule(1, 0), Rule(2, None, 1)]).first_broken(Row([0] * 46 + [1, 1])), (1, 46))

    def test_what_is_passed(self):
        book = Book(3, [Rule(1, 1)])
        for call in (book.keeps, book.first_broken):
            for value in NO_ROWS:
                self.refuses(BadRow("row"), call, value)
            for days in (1, 2, 4, 48):
                self.refuses(Misfit("days"), call, Row([1] * days))
            self.assertIn(call(Row([1, 1, 1])), (True, None))
        self.refuses(Misfit("days"), Book(3, []).keeps, Row([1]))


class Changed(Case):

    def test_with_rule(self):
        for many in range(8):
            book = Book(4, OTHERS[:many])
            self.is_same(book.with_rule(RULE), Book(4, OTHERS[:many] + [RULE]))
            self.is_same(book.with_rule(rule=RULE).rules[-1], RULE)
            self.is_same(len(book.rules), many)
        self.refuses(TooMany("rules", 8), Book(4, [RULE] * 8).with_rule, RULE)
        for value in NO_RULES + ([RULE], Book(4, [])):
            self.refuses(BadRule("rule"), Book(4, []).with_rule, value)
            self.refuses(BadRule("rule"), Book(4, [RULE] * 8).with_rule, value)

    def test_without(self):
        for many in (0, 1, 4, 7):
            book = Book(4, OTHERS[:many])
            for told_out in product((False, True), repeat=many):
                numbers = [number for number in range(many) if told_out[number]]
                right = [rule for rule, out in zip(OTHERS, told_out) if not out]
                self.is_same(book.without(numbers), Book(4, right))
                self.is_same(book.without(numbers=tuple(reversed(numbers))), Book(4, right))
        self.is_same(Book(4, [RULE, RULE]).without([1]), Book(4, [RULE]))

    def test_without_no_rules(self):
        book = Book(4, OTHERS[:3])
        for value in NO_LISTS_OF_INTEGERS + ([0, True], [9, None], (0, 0, "0")):
            self.refuses(BadNumber("numbers"), book.without, value)
        for value, number in (
                ([3], 3), ([0, -1, 5], -1), ([0, 5, -1], 5), ([0, 0, 3], 3), ((2, 2, 7, 8), 7), ([HUGE], HUGE), ([4, 4], 4)):
            self.refuses(NoRule(number), book.without, value)
        for value, number in (([0, 0], 0), ([2, 1, 1, 2], 1), ((1, 2, 0, 2, 1), 2)):
            self.refuses(Twice(number), book.without, value)
        self.refuses(NoRule(0), Book(4, []).without, [0])
        self.is_same(Book(4, []).without([]), Book(4, []))

    def test_with_days(self):
        book = Book(4, OTHERS[:3])
        for days in (1, 4, 48):
            self.is_same(book.with_days(days), Book(days, OTHERS[:3]))
        self.is_same(book.with_days(days=5).days, 5)
        for value in NO_INTEGERS + (0, -1, 49, HUGE):
            self.refuses(BadNumber("days"), book.with_days, value)

    def test_turned(self):
        book = Book(4, [Rule(3, 1), Rule(2, None, 5), Rule(9, -1, 4)])
        self.is_same(book.turned(), Book(4, [Rule(3, None, -1), Rule(2, -5), Rule(9, -4, 1)]))
        self.is_same(book.turned().turned(), book)
        self.is_same(Book(7, []).turned(), Book(7, []))

    def test_nothing_changes_the_book(self):
        book = Book(4, OTHERS)
        book.with_rule(RULE), book.without([0, 2]), book.with_days(9), book.turned(), book.together()
        self.is_same(told(book), told(Book(4, OTHERS)))


class Together(Case):

    def test_against_each_length(self):
        chance = random.Random(8)
        seen = [0, 0]
        for _ in range(1000):
            book = some_book(chance, 4, (-2, -1, 0, 1, 3))
            rules = [(number, rule) for number, rule in enumerate(told(book)[1]) if rule[0] <= book.days]
            empty = sorted(
                (one, other) for one, (length, low, _) in rules for other, (second, _, high) in rules
                if length == second and low is not None and high is not None and low > high)
            seen[bool(empty)] += 1
            if empty:
                self.refuses(Impossible(Empty(*empty[0])), book.together)
                continue
            right = []
            for length in sorted({rule[0] for _, rule in rules}):
                lows = [low for _, (other, low, _) in rules if other == length and low is not None]
                highs = [high for _, (other, _, high) in rules if other == length and high is not None]
                right.append((length, max(lows) if lows else None, min(highs) if highs else None))
            self.is_same(told(book.together()), (book.days, right))
        self.assertTrue(min(seen) > 100, seen)

    def test_the_same_rows_keep_it(self):
        chance = random.Random(9)
        for _ in range(60):
            book = some_book(chance, 3, (-1, 0, 2))
            rows = [Row(gains) for gains in product(range(-2, 4), repeat=book.days)]
            try:
                one = book.together()
            except Impossible as error:
                self.assertIs(type(error.paper), Empty)
                self.assertFalse(any(book.keeps(row) for row in rows))
            else:
                self.assertEqual([one.keeps(row) for row in rows], [book.keeps(row) for row in rows])

    def test_ascending_by_lengths(self):
        lengths = (40, 9, 2, 48, 17, 1, 33, 8)
        rules = [Rule(length, length) for length in lengths]
        self.is_same(Book(48, rules).together(), Book(48, sorted(rules, key=lambda rule: rule.length)))
        self.is_same(Book(17, rules).together(), Book(17, [Rule(length, length) for length in (1, 2, 8, 9, 17)]))

    def test_edges(self):
        self.is_same(Book(3, []).together(), Book(3, []))
        self.is_same(Book(3, [Rule(4, 1), Rule(4, None, 0)]).together(), Book(3, []))
        self.is_same(Book(4, [Rule(4, 1), Rule(4, None, 1)]).together(), Book(4, [Rule(4, 1, 1)]))
        self.refuses(Impossible(Empty(1, 0)), Book(4, [Rule(4, None, 0), Rule(4, 1)]).together)
        self.refuses(
            Impossible(Empty(1, 3)),
            Book(4, [Rule(1, 1), Rule(4, 5), Rule(4, 6), Rule(4, None, 3), Rule(4, None, 2), Rule(1, None, 0)])
            .without([5]).together)
        self.refuses(
            Impossible(Empty(0, 3)), Book(2, [Rule(1, 1), Rule(2, 1), Rule(2, None, 0), Rule(1, None, 0)]).together)


class Texts(Case):

    def test_texts(self):
        self.is_same(str(Book(6, [])), "6 : -")
        self.is_same(str(Book(48, [Rule(3, None, -1)])), "48 : 3 - -1")
        self.is_same(str(Book(6, [Rule(3, 1), Rule(48, -2, 10 ** 60)])), f"6 : 3 1 - / 48 -2 {10 ** 60}")
        chance = random.Random(10)
        for _ in range(200):
            book = some_book(chance, 47)
            text = f"{book.days} : "
            text += " / ".join(
                " ".join("-" if part is None else str(part) for part in rule) for rule in told(book)[1]) or "-"
            self.is_same(str(book), text)
            self.is_same(Book.read(text), book)
            self.is_same(told(Book.read(text=text)), told(book))

    def test_what_is_no_text(self):
        for value in NO_STRINGS + (Book(3, []),):
            self.refuses(BadText(0, 0), Book.read, value)

    def test_items_that_cannot_stand(self):
        no_days = NO_NUMBER_ITEMS + ("0", "-1", "49", "9" * 60)
        no_bounds = tuple(item for item in NO_NUMBER_ITEMS if item != "-")
        marks = ("", "-", "x", "1", "::", "//", ".")
        no_colon, no_slash = marks + ("/",), marks + (":",)
        no_first = tuple(item for item in no_days if item != "-")
        self.bends(Book.read, "6 : -", [no_days, no_colon, no_first])
        self.bends(Book.read, "48 : 3 - -1", [no_days, no_colon, no_first, no_bounds, NO_NUMBER_ITEMS])
        self.bends(Book.read, "1 : 3 -1 2 / 48 5 - / 1 - 0", [
            no_days, no_colon, no_first, no_bounds, no_bounds + ("-2",), no_slash, no_days, no_bounds, no_bounds + ("4",),
            no_slash, no_days, no_bounds, NO_NUMBER_ITEMS])

    def test_items_missing_or_too_many(self):
        for text, item in (
                ("", 0), ("6", 1), ("6 ", 1), ("6 :", 2), ("6 : ", 2), ("6 : 3", 3), ("6 : 3 1", 4), ("6 : 3 1 -", None),
                ("6 : 3 1 - ", 5), ("6 : 3 1 - /", 6), ("6 : 3 1 - / ", 6), ("6 : 3 1 - / 4", 7), ("6 : 3 1 - / 4 -", 8),
                ("6 : 3 1 - / 4 - -", 8), ("6 : - ", 3), ("6 : - 1", 3), ("6 : - /", 3), ("6 : - / 3 1 -", 3),
                ("6 : 3 1 - / -", 6), ("6: 3 1 -", 0), ("6 : 3 1 -/ 4 1 -", 4), ("6 : 3 1 - 4 1 -", 5),
                ("6  : -", 1), (" 6 : -", 0), ("6 : / 3 1 -", 2), ("0 x", 0)):
            if item is None:
                self.is_same(Book.read(text), Book(6, [Rule(3, 1)]))
            else:
                self.refuses(BadText(0, item), Book.read, text)

    def test_a_ninth_rule(self):
        text = "6 : " + " / ".join(["3 1 -"] * 8)
        self.is_same(Book.read(text), Book(6, [Rule(3, 1)] * 8))
        for more in (" /", " / 3 1 -", " / x", " x", " ", " / 3 1 - / 3 1 -"):
            self.refuses(BadText(0, 33), Book.read, text + more)
        self.refuses(BadText(0, 32), Book.read, text[:-1] + "0 / 3 1 -")
        seven = "6 : " + " / ".join(["3 1 -"] * 7)
        self.refuses(BadText(0, 30), Book.read, seven + " /")
