"""Point 6: a row that keeps a book, or a ring; costs of ways; greater and lesser heights."""

import random
from itertools import product
from time import perf_counter

from anyseven.books import Book
from anyseven.errors import BadBook, BadPaper, BadRow, Misfit
from anyseven.kept import Kept, Ring, cost_of, kept, lower, upper
from anyseven.rows import Row
from anyseven.rules import Rule
from anyseven.signs import sign_book
from anyseven.ways import lead_of, links_of, way_of
from tests.support import NO_LISTS, Case
from tests.test_books import NO_BOOKS, told
from tests.test_rows import NO_ROWS
from tests.test_rules import keeps

SEVEN = Book(7, [Rule(3, None, -1), Rule(5, 1)])
ABOUT = [(0, 0, 1), (3, 0, 1), (6, 1, -1), (1, 0, 1), (4, 0, 1), (7, 1, -1), (2, 0, 1), (5, 1, -1)]


def all_steps(book):
    """All steps of the book with the places to which they lead and their costs, from the words of point 6."""
    steps = {}
    for place in range(book.days + 1):
        for number, (length, low, high) in enumerate(told(book)[1]):
            if high is not None and place + length <= book.days:
                steps[place, number, 1] = (place + length, high)
            if low is not None and place - length >= 0:
                steps[place, number, -1] = (place - length, -low)
    return steps


def random_book(chance, days, many, spread):
    rules = []
    for _ in range(many):
        low = chance.choice((None, chance.randint(-spread, spread)))
        high = chance.randint(-spread, spread) if low is None else chance.choice((None, low + chance.randint(0, spread)))
        rules.append(Rule(chance.randint(1, min(48, days + 1)), low, high))
    return Book(days, rules)


class Answers(Case):

    def right(self, book):
        """The answer to the book, added up anew: whether it is kept."""
        paper = kept(book)
        if type(paper) is Kept:
            self.is_same((paper.word, paper.parts, bool(paper)), ("kept", (paper.row,), True))
            self.assertIs(type(paper.row), Row)
            self.assertEqual(len(paper.row.gains), book.days)
            for rule in told(book)[1]:
                self.assertTrue(keeps(paper.row.gains, *rule)[0], (str(book), paper.row.gains))
            self.short(paper.row.heights)
            return True
        self.assertIs(type(paper), Ring)
        self.is_same((paper.word, paper.parts, bool(paper)), ("ring", (paper.steps,), False))
        self.assertIs(type(paper.steps), tuple)
        self.assertGreater(len(paper.steps), 0)
        steps, cost, place = all_steps(book), 0, paper.steps[0][0]
        for step in paper.steps:
            self.assertIs(type(step), tuple)
            self.assertEqual(step[0], place)
            place, more = steps[step]
            cost += more
        self.assertEqual(place, paper.steps[0][0])
        self.assertLess(cost, 0)
        self.is_same(cost_of(book, paper.steps), cost)
        self.is_same(kept(Book(book.days, list(book.rules))) == paper, True)
        return False

    def short(self, numbers):
        self.assertLess(max(abs(number) for number in numbers), 10 ** 60)


class Small(Answers):

    def test_against_all_rows_of_few_gains(self):
        chance = random.Random(12)
        rows = {days: list(product(range(-3, 4), repeat=days)) for days in (1, 2, 3, 4)}
        seen = {}
        for _ in range(500):
            book = random_book(chance, chance.randint(1, 4), chance.randint(0, 4), 3)
            rules = told(book)[1]
            some = any(all(keeps(gains, *rule)[0] for rule in rules) for gains in rows[book.days])
            answer = self.right(book)
            if some:
                self.assertTrue(answer, str(book))
            seen[some, answer] = seen.get((some, answer), 0) + 1
        self.assertTrue(seen[True, True] > 100 and seen[False, False] > 100, seen)

    def test_books_of_one_rule_of_highs_of_lows(self):
        for days in (1, 2, 5, 9):
            for length in range(1, days + 2):
                for low, high in ((None, -5), (5, None), (2, 2), (-1, 0)):
                    self.assertTrue(self.right(Book(days, [Rule(length, low, high)])))
            self.assertTrue(self.right(Book(days, [Rule(length, None, -length) for length in range(1, 9)])))
            self.assertTrue(self.right(Book(days, [Rule(length, length) for length in range(1, 9)])))
            self.assertTrue(self.right(Book(days, [])))

    def test_how_long_two_lengths_last(self):
        for one, other, days in ((11, 7, 16), (7, 11, 16), (4, 6, 7), (3, 5, 6), (5, 5, 4), (24, 23, 45), (1, 2, 1), (47, 1, 46)):
            self.assertTrue(self.right(sign_book(days, [one], [other])))
            self.assertFalse(self.right(sign_book(days + 1, [one], [other])))
        self.assertFalse(self.right(sign_book(1, [1], [1])))

    def test_rings_at_the_edge(self):
        for total, right in ((5, True), (6, False)):
            book = Book(2, [Rule(1, None, 2), Rule(1, None, 3), Rule(2, total - 1)])
            self.is_same(self.right(book), right)
        self.is_same(self.right(Book(3, [Rule(1, 4), Rule(1, None, 3)])), False)
        self.is_same(self.right(Book(3, [Rule(4, 4), Rule(4, None, 3)])), True)
        self.is_same(self.right(Book(48, [Rule(48, 4), Rule(48, None, 3)])), False)
        self.is_same(self.right(Book(47, [Rule(48, 4), Rule(48, None, 3)])), True)
        self.is_same(self.right(Book(48, [Rule(1, 1), Rule(48, None, 48)])), True)
        self.is_same(self.right(Book(48, [Rule(1, 1), Rule(48, None, 47)])), False)

    def test_fewer_days_keep_what_more_do(self):
        chance = random.Random(13)
        for _ in range(100):
            book = random_book(chance, 12, 4, 6)
            answers = [self.right(book.with_days(days)) for days in range(1, 13)]
            self.assertEqual(answers, sorted(answers, reverse=True))

    def test_what_is_no_book(self):
        for value in NO_BOOKS:
            self.refuses(BadBook("book"), kept, value)
        self.is_same(bool(kept(book=SEVEN)), False)


class Long(Answers):

    def test_books_of_48_days_with_eight_rules(self):
        chance = random.Random(14)
        seen = [0, 0]
        for spread in (3, 20, 10 ** 6 - 1, 10 ** 9 - 1):
            for _ in range(25):
                book = random_book(chance, 48, 8, spread)
                begun = perf_counter()
                kept(book)
                self.assertLess(perf_counter() - begun, 2)
                seen[self.right(book)] += 1
        self.assertTrue(seen[False] > 20 and seen[True] > 2, seen)

    def test_books_that_are_just_kept(self):
        chance = random.Random(15)
        for _ in range(25):
            gains = [chance.randint(-10 ** 6, 10 ** 6) for _ in range(48)]
            rules = []
            for length in chance.sample(range(1, 25), 8):
                found = [sum(gains[begin:begin + length]) for begin in range(49 - length)]
                rules.append(Rule(length, min(found), max(found)))
            begun = perf_counter()
            self.assertTrue(self.right(Book(48, rules)))
            self.assertLess(perf_counter() - begun, 2)

    def test_long_rings(self):
        for one, other in ((24, 25), (17, 31), (13, 35)):
            book = sign_book(48, [one], [other])
            begun = perf_counter()
            self.assertFalse(self.right(book))
            self.assertLess(perf_counter() - begun, 2)
            self.assertTrue(self.right(book.with_days(one + other - 2)))

    def test_long_numbers(self):
        high = 10 ** 300
        self.assertTrue(type(kept(Book(9, [Rule(2, high), Rule(3, None, high * 3 // 2)]))) is Kept)
        self.assertTrue(type(kept(Book(9, [Rule(2, high), Rule(3, None, high)]))) is Ring)


class Costs(Case):

    def test_costs(self):
        chance = random.Random(16)
        for _ in range(200):
            book = random_book(chance, chance.randint(1, 9), chance.randint(1, 8), 9)
            steps = all_steps(book)
            for step, (_, cost) in steps.items():
                self.is_same(cost_of(book, [step]), cost)
                self.is_same(cost_of(book, (list(step),)), cost)
            way, cost, place = [], 0, chance.randint(0, book.days)
            for _ in range(12):
                onward = [step for step in steps if step[0] == place]
                if onward:
                    way.append(chance.choice(onward))
                    place, more = steps[way[-1]]
                    cost += more
            self.is_same(cost_of(book, way), cost)
            self.is_same(cost_of(steps=tuple(way), book=book), cost)

    def test_each_triple(self):
        rules = [Rule(1, None, 4), Rule(2, -1), Rule(4, 1, 1), Rule(3, 0, 0), Rule(1, 2, 3)]
        for book in (Book(3, rules), Book(3, rules[::-1]), Book(1, rules), Book(4, [])):
            steps = all_steps(book)
            for step in product(range(-4, 6), range(-6, 7), range(-2, 4)):
                if step in steps:
                    self.is_same(cost_of(book, [step]), steps[step][1])
                    self.is_same(lead_of(book, step), steps[step])
                else:
                    self.refuses(BadPaper("steps"), cost_of, book, [step])
            self.assertEqual(len(links_of(book)), len(steps))
            for begin, end, cost, step in links_of(book):
                self.is_same((step[0], steps[step]), (begin, (end, cost)))

    def test_where_ways_begin_and_end(self):
        for at in range(len(ABOUT)):
            for last in range(at + 1, len(ABOUT)):
                cost = cost_of(SEVEN, ABOUT[at:last])
                self.is_same(way_of(SEVEN, ABOUT[at:last]), (ABOUT[at][0], ABOUT[last][0], cost))
        self.is_same(way_of(SEVEN, ABOUT), (0, 0, -8))
        self.is_same(way_of(SEVEN, []), (None, None, 0))
        self.is_same(way_of(SEVEN, ABOUT[:2] + ABOUT[3:]), None)

    def test_the_way_of_no_step(self):
        for book in (SEVEN, Book(1, []), Book(48, [Rule(1, 1)])):
            self.is_same(cost_of(book, []), 0)
            self.is_same(cost_of(book, ()), 0)

    def test_what_is_no_way(self):
        for value in NO_LISTS + (Ring(ABOUT), SEVEN):
            self.refuses(BadPaper("steps"), cost_of, SEVEN, value)
        for step in NO_LISTS + ((), (0, 0), (0, 0, 1, 1), [[0, 0, 1]], (0, 0, True), (False, 0, 1), (0, False, 1),
                                (0, 0, None), (0.0, 0, 1), ("0", 0, 1), (0, 0, 0), (0, 0, 2), (0, 0, -1), (3, 0, -1),
                                (0, 1, 1), (5, 0, 1), (-3, 0, 1), (4, 1, -1), (8, 1, -1), (0, 2, 1), (0, -1, 1),
                                (10 ** 70, 0, 1), (0, 0, 10 ** 70)):
            self.refuses(BadPaper("steps"), cost_of, SEVEN, [step])
            self.refuses(BadPaper("steps"), cost_of, SEVEN, ABOUT + [step])
            self.refuses(BadPaper("steps"), cost_of, SEVEN, [step] + ABOUT)
        for at in range(len(ABOUT)):
            cut = ABOUT[:at] + ABOUT[at + 1:]
            if 0 < at < len(ABOUT) - 1:
                self.refuses(BadPaper("steps"), cost_of, SEVEN, cut)
            self.is_same(cost_of(SEVEN, ABOUT[at:] + ABOUT[:at]), -8)
        self.refuses(BadPaper("steps"), cost_of, SEVEN.with_days(6), ABOUT)

    def test_what_is_no_book(self):
        for value in NO_BOOKS:
            self.refuses(BadBook("book"), cost_of, value, [])
            self.refuses(BadBook("book"), cost_of, value, None)


class Heights(Case):

    def test_greater_and_lesser_heights(self):
        chance = random.Random(17)
        for _ in range(200):
            days = chance.choice((1, 2, 3, 8, 48))
            one = Row([chance.randint(-5, 5) for _ in range(days)])
            other = Row([chance.randint(-5, 5) for _ in range(days)])
            pairs = list(zip(one.heights, other.heights))
            self.is_same(upper(one, other).heights, tuple(max(pair) for pair in pairs))
            self.is_same(lower(one, other).heights, tuple(min(pair) for pair in pairs))
            self.is_same(upper(other=one, one=other), upper(one, other))
            self.is_same(lower(other=one, one=other), lower(one, other))
            self.is_same(upper(one, one), one)
            self.is_same(upper(one, other).added(lower(one, other)), one.added(other))

    def test_they_keep_what_both_keep(self):
        chance = random.Random(18)
        count = 0
        for _ in range(300):
            book = random_book(chance, 4, 2, 3)
            rows = [Row([chance.randint(-2, 2) for _ in range(4)]) for _ in range(20)]
            rows = [row for row in rows if book.keeps(row)]
            for one, other in zip(rows, rows[1:]):
                count += 1
                self.assertTrue(book.keeps(upper(one, other)))
                self.assertTrue(book.keeps(lower(one, other)))
        self.assertGreater(count, 300)

    def test_what_is_passed(self):
        row = Row([1, 2, 3])
        for call in (upper, lower):
            for value in NO_ROWS:
                self.refuses(BadRow("one"), call, value, row)
                self.refuses(BadRow("other"), call, row, value)
                self.refuses(BadRow("one"), call, value, value)
                self.refuses(BadRow("other"), call, other=value, one=row)
            for days in (1, 2, 4, 48):
                self.refuses(Misfit("days"), call, row, Row([1] * days))
