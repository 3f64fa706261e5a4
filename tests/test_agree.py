"""Points 5, 6 and 8 to 12: what several parts tell of the same rows, books and lengths."""

import random
from itertools import combinations

from anyseven.apart import Parted, apart
from anyseven.books import Book
from anyseven.bounds import any_greatest, any_least, greatest
from anyseven.closed import closed, closure
from anyseven.even import even_row
from anyseven.follows import follows
from anyseven.kept import kept
from anyseven.level_lengths import level_lengths, other_lengths
from anyseven.level_stretches import Sign, average_stretch, level_stretch
from anyseven.levelled import levelled
from anyseven.made import made_row
from anyseven.missed import missed, never_missed
from anyseven.missed_lots import missed_lots
from anyseven.needless import needless, tightened
from anyseven.paces import paces, simplest_pace
from anyseven.rounds import Round, totals
from anyseven.rows import Row
from anyseven.rules import Rule
from anyseven.settled import settled, settled_from
from anyseven.signs import sign_book
from anyseven.sorts import sort_of
from anyseven.tables import Table, forced, signs_row, table_of
from anyseven.unlike import all_tables, unlike, unlike_pairs
from anyseven.walks import walk_lots
from tests.support import Case
from tests.test_paces import some_rules
from tests.test_tables import some_signs


def level_book(days, gaining, losing):
    """The book of told signs, in level rows."""
    return sign_book(days, gaining, losing).with_rule(Rule(days, 0, 0))


class MadeRows(Case):

    def test_what_they_miss(self):
        for days in range(1, 13):
            for lot in missed_lots(days):
                row = made_row(days, lot)
                self.is_same(missed(row).signs, tuple((length, 1) for length in lot))
                self.is_same(table_of(row), Table(lot, ()))
                spans = level_lengths(row)
                for length in range(1, days + 1):
                    gains = length in lot
                    self.is_same(sort_of(row, length) == "gains", gains)
                    paper = level_stretch(row, (length, 1))
                    self.is_same(paper == Sign(1) if gains else bool(paper), True)
                    self.is_same(average_stretch(row, (length, 1)), paper)
                    inside = any(first[0] <= length * first[1] and length * last[1] <= last[0] for first, last in spans)
                    self.is_same(inside, not gains)
                self.is_same({sign for _, _, sign in other_lengths(row)} <= {1}, True)

    def test_books_and_signs(self):
        for days in range(1, 10):
            for lot in missed_lots(days):
                row = made_row(days, lot)
                self.assertTrue(level_book(days, lot, []).keeps(row))
                self.assertTrue(signs_row(days, lot, [], True))
                # What all such rows miss is what the lot makes, which is the lot itself.
                self.is_same(forced(days, lot, [], True), Table(lot, ()))
                others = [length for length in range(1, days) if length not in lot]
                self.is_same(type(apart(days, lot, others)), Parted)
                for length in others:
                    self.is_same(bool(follows(level_book(days, lot, []), Rule(length, 1))), False)

    def test_lots_that_make_the_days(self):
        for days in range(1, 9):
            for many in range(days):
                for lot in combinations(range(1, days), many):
                    told = bool(closure(days, lot))
                    self.is_same(bool(signs_row(days, lot, [], True)), told)
                    self.is_same(bool(kept(level_book(days, lot, []))), told)
                    self.is_same(bool(apart(days, lot, [])), told)
                    if told:
                        self.is_same(forced(days, lot, [], True), Table(closure(days, lot).lengths, ()))
                    self.is_same(bool(closed(days, lot)), told and closure(days, lot).lengths == lot)

    def test_walks_and_tables(self):
        for days in (2, 4, 6, 8, 10, 12):
            for lot, walk in walk_lots(days):
                self.assertIn(lot, missed_lots(days))
                table = table_of(walk)
                self.is_same(tuple(sorted(table.gaining + table.losing)), lot)
        for days in range(1, 8):
            lots = {tuple(sorted(table.gaining + table.losing)) for table in all_tables(days)}
            self.assertLessEqual(set(missed_lots(days)), lots)
            self.assertFalse({length for lot in lots for length in lot} & set(never_missed(days)))

    def test_unlike_signs(self):
        for days in range(2, 15):
            for up in range(1, days):
                for down in range(1, days):
                    told = (up, down) in unlike_pairs(days)
                    self.is_same(bool(unlike(days, up, down)), told)
                    self.is_same(bool(kept(level_book(days, [up], [down]))), told)


class Signs(Case):

    def test_forced_signs_follow(self):
        count = 0
        for days, up, down in some_signs(701, 80, 7):
            for level in (True, False):
                if signs_row(days, up, down, level):
                    book = level_book(days, up, down) if level else sign_book(days, up, down)
                    table = forced(days, up, down, level)
                    for length in range(1, days + 1):
                        self.is_same(bool(follows(book, Rule(length, 1))), length in table.gaining)
                        self.is_same(bool(follows(book, Rule(length, None, -1))), length in table.losing)
                        count += length in table.gaining + table.losing
        self.assertGreater(count, 80)

    def test_levelled_rows(self):
        chance = random.Random(702)
        for _ in range(60):
            row = Row([chance.randint(-4, 4) for _ in range(chance.randint(1, 12))])
            level = levelled(row)
            signs = dict(missed(level).signs)
            for length in range(1, row.days):
                paper = average_stretch(row, (length, 1))
                self.is_same(None if paper else paper.sign, signs.get(length))


class Bounds(Case):

    def test_rules_that_follow_from_bounds(self):
        for rules in some_rules(711, 60, 6):
            book = Book(6, rules)
            if kept(book):
                for length in range(1, 7):
                    most, fewest = any_greatest(book, length), any_least(book, length)
                    if most:
                        self.assertTrue(follows(book, Rule(length, None, most.number)))
                        self.assertFalse(follows(book, Rule(length, None, most.number - 1)))
                    if fewest:
                        self.assertTrue(follows(book, Rule(length, fewest.number)))
                        self.assertFalse(follows(book, Rule(length, fewest.number + 1)))
                    if not most and not fewest:
                        self.assertFalse(follows(book, Rule(length, -10 ** 6)) or follows(book, Rule(length, None, 10 ** 6)))
                for rule in tightened(book).rules:
                    self.assertTrue(follows(book, rule))
                if len(rules) < 8:
                    for number in needless(book):
                        self.assertTrue(kept(book.without([number])))

    def test_paces_and_settled_sums(self):
        for rules in some_rules(712, 60, 7):
            if not paces(rules):
                continue
            number, by = simplest_pace(rules)
            row = even_row((number, by), 0, 48)
            for length in range(1, 15):
                told = settled(rules, length)
                if told:
                    # No pace brings more, and no row that keeps the rules does on so many days.
                    self.assertLessEqual(length * number, told.most * by)
                    self.assertLessEqual(max(row.sum_of(begin, length) for begin in range(49 - length)), told.most)
                    days = max(length, settled_from(rules))
                    self.is_same(greatest(Book(days, rules), 0, length).number, told.most)
            turn = Round(row.gains[:by])
            self.assertTrue(all(turn.keeps(rule) for rule in rules))
            found = totals(by, rules)
            self.assertTrue((found.low is None or found.low <= number) and (found.high is None or number <= found.high))
