"""Points 2, 3 and 6: which papers of rows and rings are right, and what is told of kept books."""

import random
from time import perf_counter

from anyseven.books import Book
from anyseven.check_kept import shows_kept, shows_loosened
from anyseven.errors import BadBook, NoRule
from anyseven.kept import Kept, Ring, cost_of, kept
from anyseven.loosened import Loosened, NeverKept, loosened
from anyseven.rows import Row
from anyseven.rules import Rule
from tests.anew import can_keep, right_kept, right_loosened, tight_rules, triples
from tests.bends import STRANGE, alike, bent, bent_numbers, bent_row, bent_steps
from tests.support import NO_INTEGERS, Case
from tests.test_books import NO_BOOKS

LOSE, GAIN = Rule(3, None, -1), Rule(5, 1)
SIX, SEVEN = Book(6, [LOSE, GAIN]), Book(7, [LOSE, GAIN])
SIX_ROW = Row([-3, 5, -3, -3, 5, -3])
ABOUT = [(0, 0, 1), (3, 0, 1), (6, 1, -1), (1, 0, 1), (4, 0, 1), (7, 1, -1), (2, 0, 1), (5, 1, -1)]
EVEN = Row([0, 0, 0, 1, 0, 0, 0])
NEVER = SEVEN.with_rule(Rule(1, 0, 5))
OTHER_PAPERS = (
    Kept(SIX_ROW), Ring(ABOUT), Loosened(2, EVEN, ABOUT), Loosened(0, SIX_ROW, None), NeverKept(ABOUT), Kept(None),
    Ring([]), Ring(None), NeverKept([]), NeverKept(None), Loosened(None, None, None))


def books_of(seed, count, most_days=7):
    chance = random.Random(seed)
    for _ in range(count):
        days = chance.randint(1, most_days)
        yield Book(days, tight_rules(chance, days, chance.randint(1, 5), chance.choice((1, 2, 4))))


def mirrored(book, steps):
    """The steps by which a ring of the same cost goes in the row backwards."""
    ring = []
    for place, number, sign in steps[::-1]:
        ring.append((book.days - place - sign * book.rules[number].length, number, sign))
    return ring


class ShowsKept(Case):

    def shows(self, book, value):
        shown = shows_kept(book, value)
        self.is_same(shown, right_kept(book, value))
        return shown

    def test_what_is_returned_is_right(self):
        seen = {True: 0, False: 0}
        for book in books_of(41, 300):
            paper = kept(book)
            self.is_same(self.shows(book, paper), True)
            self.is_same(shows_kept(value=paper, book=book), True)
            seen[bool(paper)] += 1
        self.assertTrue(min(seen.values()) > 60, seen)

    def test_bent_rows(self):
        count = [0, 0]
        for book in [SIX, Book(1, [Rule(1, 2, 2)]), Book(3, [])] + list(books_of(42, 40)):
            paper = kept(book)
            if paper:
                for other in bent(paper, bent_row):
                    count[self.shows(book, other)] += 1
        self.assertTrue(min(count) > 100, count)

    def test_bent_rings(self):
        count = [0, 0]
        for book in [SEVEN, Book(1, [Rule(1, 2), Rule(1, None, 1)])] + list(books_of(43, 60)):
            paper = kept(book)
            if not paper:
                for other in bent(paper, bent_steps):
                    count[self.shows(book, other)] += 1
        self.assertTrue(min(count) > 100, count)

    def test_each_bend_of_one_ring(self):
        self.is_same(self.shows(SEVEN, Ring(ABOUT)), True)
        for at in range(8):
            place, number, sign = ABOUT[at]
            for other in (
                    (place + 1, number, sign), (place - 1, number, sign), (place, 1 - number, sign), (place, number, -sign),
                    (place, number, True if sign == 1 else None), (place, bool(number), sign), (place, number),
                    (place, number, sign, 1), None, 7, (float(place), number, sign)):
                self.is_same(self.shows(SEVEN, Ring(ABOUT[:at] + [other] + ABOUT[at + 1:])), False)
            self.is_same(self.shows(SEVEN, Ring(ABOUT[:at] + ABOUT[at + 1:])), False)
            self.is_same(self.shows(SEVEN, Ring(ABOUT[:at] + [ABOUT[at]] + ABOUT[at:])), False)

    def test_rings_from_another_place_on(self):
        for at in range(9):
            self.is_same(self.shows(SEVEN, Ring(ABOUT[at:] + ABOUT[:at])), True)
            self.is_same(self.shows(SEVEN, Ring(tuple(map(list, ABOUT[at:] + ABOUT[:at])))), True)
        self.is_same(self.shows(SEVEN, Ring(ABOUT * 3)), True)
        self.is_same(self.shows(SEVEN, Ring(ABOUT[3:] + ABOUT * 2 + ABOUT[:3])), True)

    def test_rings_of_longer_and_shorter_days(self):
        for days in range(1, 49):
            self.is_same(self.shows(SEVEN.with_days(days), Ring(ABOUT)), days >= 7)

    def test_rings_that_cost_nothing_or_more(self):
        for high, shown in ((2, True), (3, False), (4, False)):
            book = Book(2, [Rule(1, 3), Rule(1, None, high)])
            self.is_same(self.shows(book, Ring([(0, 1, 1), (1, 0, -1)])), shown)
            self.is_same(self.shows(book, Ring([(1, 1, 1), (2, 0, -1)])), shown)
            self.is_same(self.shows(book, Ring([(1, 0, -1), (0, 1, 1)])), shown)
        book = Book(2, [Rule(1, 3), Rule(1, None, 2), Rule(2, 6, 6)])
        # As a whole it costs less than 0, though a part of it costs 0.
        self.is_same(self.shows(book, Ring([(0, 2, 1), (2, 2, -1), (0, 1, 1), (1, 0, -1)])), True)

    def test_no_step_is_no_ring(self):
        for book in (SIX, SEVEN, Book(1, [])):
            self.is_same(self.shows(book, Ring([])), False)
            self.is_same(self.shows(book, Ring(())), False)

    def test_rows_of_other_days(self):
        book = Book(3, [Rule(4, 1)])
        for days in (1, 2, 4, 48):
            self.is_same(self.shows(book, Kept(Row([0] * days))), False)
        self.is_same(self.shows(book, Kept(Row([0] * 3))), True)

    def test_what_is_no_such_paper(self):
        for book in (SIX, SEVEN):
            for value in STRANGE + OTHER_PAPERS + alike(Kept(SIX_ROW)) + alike(Ring(ABOUT)):
                self.shows(book, value)
            for value in STRANGE + alike(Kept(SIX_ROW)) + alike(Ring(ABOUT)) + OTHER_PAPERS[2:]:
                self.is_same(shows_kept(book, value), False)

    def test_what_is_no_book(self):
        for value in NO_BOOKS:
            self.refuses(BadBook("book"), shows_kept, value, Kept(SIX_ROW))
            self.refuses(BadBook("book"), shows_kept, value, None)


class ShowsLoosened(Case):

    def shows(self, book, number, value):
        shown = shows_loosened(book, number, value)
        self.is_same(shown, right_loosened(book, number, value))
        return shown

    def test_what_is_returned_is_right(self):
        seen = {}
        for book in books_of(44, 200):
            for number in range(len(book.rules)):
                paper = loosened(book, number)
                self.is_same(self.shows(book, number, paper), True)
                self.is_same(shows_loosened(value=paper, number=number, book=book), True)
                kind = "never" if not paper else min(paper.by, 2)
                seen[kind] = seen.get(kind, 0) + 1
        self.assertTrue(min(seen[kind] for kind in (0, 1, 2, "never")) > 20, seen)

    def test_bent_papers(self):
        count = [0, 0]
        fixed = [SIX, SEVEN, NEVER, Book(2, [Rule(1, 3), Rule(1, None, 2)])]
        for book in fixed + list(books_of(45, 40, 5)):
            for number in range(len(book.rules)):
                paper = loosened(book, number)
                bends = (bent_steps,) if not paper else (bent_numbers, bent_row, None if paper.by == 0 else bent_steps)
                for other in bent(paper, *bends):
                    count[self.shows(book, number, other)] += 1
        self.assertTrue(count[0] > 10000 and count[1] > 1000, count)

    def test_by_alone(self):
        self.is_same(self.shows(SEVEN, 0, Loosened(2, EVEN, ABOUT)), True)
        for by in (0, 1, 3, 4, -2, True, 2.0, "2", None, (2,), 10 ** 70):
            self.is_same(self.shows(SEVEN, 0, Loosened(by, EVEN, ABOUT)), False)
        one = Book(1, [Rule(1, 3), Rule(1, None, 2)])
        ring = [(0, 1, 1), (1, 0, -1)]
        self.is_same(self.shows(one, 0, Loosened(1, Row([2]), ring)), True)
        self.is_same(self.shows(one, 0, Loosened(True, Row([2]), ring)), False)
        self.is_same(self.shows(one, 1, Loosened(1, Row([2]), ring)), False)
        self.is_same(self.shows(one, 1, Loosened(1, Row([3]), ring)), True)

    def test_no_ring_just_where_nothing_is_asked(self):
        for ring in (None, (), [], ABOUT, False, 0, ((),)):
            self.is_same(self.shows(SIX, 0, Loosened(0, SIX_ROW, ring)), ring is None)
            self.is_same(self.shows(SEVEN, 0, Loosened(2, EVEN, ring)), ring == ABOUT)
        for by in (False, 0.0, None, -1, 1):
            self.is_same(self.shows(SIX, 0, Loosened(by, SIX_ROW, None)), False)

    def test_rings_from_another_place_on(self):
        for at in range(9):
            self.is_same(self.shows(SEVEN, 0, Loosened(2, EVEN, ABOUT[at:] + ABOUT[:at])), True)
            self.is_same(self.shows(NEVER, 2, NeverKept(ABOUT[at:] + ABOUT[:at])), True)

    def test_rings_that_are_none_of_the_others(self):
        book = Book(2, [Rule(1, 3), Rule(1, None, 2), Rule(2, 5, 5), Rule(2, None, 5)])
        ring = [(0, 1, 1), (1, 0, -1)]
        for number in range(4):
            self.is_same(self.shows(book, number, NeverKept(ring)), number > 1)
            more = [(0, 2, 1), (2, 2, -1)] + ring
            self.is_same(cost_of(book, more), -1)
            self.is_same(self.shows(book, number, NeverKept(more)), number == 3)
            self.is_same(self.shows(book, number, NeverKept(more[:2])), False)
            self.is_same(self.shows(book, number, NeverKept([])), False)

    def test_what_is_no_such_paper(self):
        for book, number in ((SIX, 0), (SIX, 1), (SEVEN, 0), (SEVEN, 1), (NEVER, 2)):
            for value in OTHER_PAPERS:
                self.shows(book, number, value)
            for value in STRANGE + alike(Loosened(2, EVEN, ABOUT)) + alike(NeverKept(ABOUT)) + OTHER_PAPERS[:2]:
                self.is_same(shows_loosened(book, number, value), False)

    def test_what_is_passed(self):
        for value in NO_BOOKS:
            self.refuses(BadBook("book"), shows_loosened, value, 0, NeverKept(ABOUT))
            self.refuses(BadBook("book"), shows_loosened, value, None, None)
        for value in NO_INTEGERS + (-1, 2, 10 ** 70):
            self.refuses(NoRule(value), shows_loosened, SEVEN, value, Loosened(2, EVEN, ABOUT))
            self.refuses(NoRule(value), shows_loosened, SEVEN, value, None)
        self.refuses(NoRule(0), shows_loosened, Book(3, []), 0, None)


class KeptBooks(Case):
    """What point 6 tells of kept books."""

    def test_fewer_and_more_days(self):
        for book in books_of(46, 80, 9):
            answers = [bool(kept(book.with_days(days))) for days in range(1, 12)]
            self.assertEqual(answers, sorted(answers, reverse=True))
            self.assertEqual(answers, [can_keep(days, triples(book.rules)) for days in range(1, 12)])
            paper = kept(book)
            if paper:
                for days in range(1, book.days):
                    for begin in (0, book.days - days):
                        part = Kept(paper.row.part(begin, days))
                        self.is_same(shows_kept(book.with_days(days), part), True)
            else:
                for days in range(book.days, 49):
                    self.is_same(shows_kept(book.with_days(days), paper), True)
                    later = [(place + days - book.days, number, sign) for place, number, sign in paper.steps]
                    self.is_same(shows_kept(book.with_days(days), Ring(later)), True)

    def test_fewer_and_more_rules(self):
        for book in books_of(47, 100):
            paper = kept(book)
            more = book.with_rule(Rule(2, None, -1)).with_rule(Rule(1, 0))
            if paper:
                for number in range(len(book.rules)):
                    self.is_same(shows_kept(book.without([number]), paper), True)
                    self.assertTrue(kept(book.without([number])))
            else:
                self.is_same(shows_kept(more, paper), True)
                self.assertFalse(kept(more))
                used = {step[1] for step in paper.steps}
                for number in range(len(book.rules)):
                    if number not in used:
                        self.assertFalse(kept(book.without([number])))

    def test_rules_of_more_days(self):
        for book in books_of(48, 80):
            longer = [Rule(length, low, high) for length in (book.days + 1, 48) for low, high in ((5, None), (None, -4))]
            more = Book(book.days, longer[:2] + list(book.rules[:4]) + longer[2:])
            paper = kept(more)
            fewer = Book(book.days, book.rules[:4])
            self.is_same(bool(paper), bool(kept(fewer)))
            if paper:
                self.is_same(shows_kept(fewer, paper), True)
            else:
                self.assertTrue({step[1] for step in paper.steps} <= {2, 3, 4, 5})
            for number in (0, 1):
                self.is_same(shows_kept(more, Ring([(0, number, 1), (book.days + 1, number, -1)])), False)

    def test_told_sums(self):
        chance = random.Random(49)
        for _ in range(60):
            days, gain = chance.randint(2, 20), chance.randint(-9, 9)
            lengths = chance.sample(range(1, days + 1), min(days, 4))
            steady = Book(days, [Rule(length, gain * length, gain * length) for length in lengths])
            self.is_same(shows_kept(steady, Kept(Row([gain] * days))), True)
            row = kept(steady).row
            for length in lengths:
                for begin in range(days - length + 1):
                    self.assertEqual(sum(row.gains[begin:begin + length]), gain * length)
            total = gain * lengths[0]
            self.assertFalse(kept(steady.with_rule(Rule(lengths[0], total + 1, total + 1))))
            self.assertFalse(kept(steady.with_rule(Rule(lengths[0], None, total - 1))))
        # Any two of four days bring just 3; so all of them bring 6.
        for total in (5, 6, 7):
            book = Book(4, [Rule(2, 3, 3), Rule(4, total, total)])
            self.is_same(bool(kept(book)), total == 6)

    def test_backwards(self):
        for book in books_of(50, 120):
            paper = kept(book)
            if paper:
                self.is_same(shows_kept(book, Kept(paper.row.backwards())), True)
            else:
                ring = mirrored(book, paper.steps)
                self.is_same(cost_of(book, ring), cost_of(book, paper.steps))
                self.is_same(shows_kept(book, Ring(ring)), True)

    def test_turned(self):
        for book in books_of(51, 120):
            paper = kept(book)
            self.is_same(bool(kept(book.turned())), bool(paper))
            if paper:
                self.is_same(shows_kept(book.turned(), Kept(paper.row.times(-1))), True)
            else:
                # The steps one behind another from the last one, each the other way, cost the same in the turned book.
                lengths = [rule.length for rule in book.rules]
                ring = [(place + sign * lengths[number], number, -sign) for place, number, sign in paper.steps[::-1]]
                self.is_same(cost_of(book.turned(), ring), cost_of(book, paper.steps))
                self.is_same(shows_kept(book.turned(), Ring(ring)), True)

    def test_in_another_order(self):
        chance = random.Random(52)
        for book in books_of(53, 120):
            order = chance.sample(range(len(book.rules)), len(book.rules))
            other = Book(book.days, [book.rules[number] for number in order])
            paper = kept(book)
            self.is_same(bool(kept(other)), bool(paper))
            if paper:
                self.is_same(shows_kept(other, paper), True)
            else:
                ring = [(place, order.index(number), sign) for place, number, sign in paper.steps]
                self.is_same(shows_kept(other, Ring(ring)), True)

    def test_all_bounds_so_many_times(self):
        for book in books_of(54, 80):
            paper = kept(book)
            for number in (2, 3, 7, 10 ** 6):
                more = Book(book.days, [rule.times(number) for rule in book.rules])
                self.is_same(bool(kept(more)), bool(paper))
                self.is_same(shows_kept(more, Kept(paper.row.times(number)) if paper else paper), True)

    def test_whole_numbers_are_enough(self):
        # Some row of thirds keeps the book exactly if a row of integers does.
        count = 0
        for book in books_of(55, 150):
            thirds = kept(Book(book.days, [rule.times(3) for rule in book.rules]))
            if thirds:
                heights = Row.of([height // 3 for height in thirds.row.heights])
                self.is_same(shows_kept(book, Kept(heights)), True)
                count += 1
        self.assertGreater(count, 40)
        # Any two of three days bring just 1: halves for each day, but whole numbers do.
        self.is_same(kept(Book(3, [Rule(2, 1, 1)])).row.sum_of(0, 2), 1)

    def test_a_rule_loosened(self):
        for book in books_of(56, 60):
            for number in range(len(book.rules)):
                paper, fewer = loosened(book, number), kept(book.without([number]))
                self.is_same(bool(paper), bool(fewer))
                if paper and paper.by > 0:
                    steps = len([step for step in paper.ring if step[1] == number])
                    self.assertTrue((paper.by - 1) * steps < -cost_of(book, paper.ring) <= paper.by * steps)


class Long(Case):

    def test_long_rings_and_rows(self):
        chance = random.Random(57)
        ring = ABOUT * 1000
        book = Book(48, [LOSE, GAIN] + [Rule(chance.randint(1, 48), -9, 10 ** 6) for _ in range(6)])
        begun = perf_counter()
        self.is_same(shows_kept(book, Ring(ring)), True)
        self.is_same(shows_kept(book, Ring(ring[:-1])), False)
        self.is_same(shows_loosened(book, 2, NeverKept(ring)), True)
        self.is_same(shows_kept(Book(48, [Rule(length, length) for length in range(1, 9)]), Kept(Row([1] * 48))), True)
        self.assertLess(perf_counter() - begun, 2)
