"""Points 2, 3 and 13: which papers of the fewest and the most days of work are right."""

import random
from time import perf_counter

from anyseven.check_duties import shows_fewest, shows_most
from anyseven.duties import duty_book
from anyseven.duty_bounds import Duties, fewest_duties, most_duties
from anyseven.errors import BadNumber, BadRule, TooMany
from anyseven.kept import Kept, Ring, kept
from anyseven.rows import Row
from anyseven.rules import Rule
from tests import bends
from tests.anew import triples
from tests.anew_duties import fitting, right_duties, some_duty_rules
from tests.bends import bent_papers
from tests.support import NO_LISTS, Case, few
from tests.test_duties import NO_DAYS
from tests.test_duty_bounds import NEVER
from tests.test_rules import NO_RULES

RULES = [Rule(3, 1, 2)]
CALLS = ((fewest_duties, shows_fewest, -1), (most_duties, shows_most, 1))
FEW, MANY = Row([0, 1, 0, 0]), Row([1, 1, 0, 1])
HOME, FORTH = ((4, 1, -1), (3, 0, -1)), ((0, 0, 1), (3, 1, 1))
OTHER_PAPERS = (Duties(None, None), Duties(FEW, ()), Duties((), ()), Kept(FEW), Ring(HOME), Duties(FEW, None), Duties(None, HOME))


class Shows(Case):

    def shows(self, days, rules, call, sign, value):
        shown = call(days, rules, value)
        self.is_same(shown, right_duties(days, triples(rules), sign, value))
        self.is_same(call(value=value, rules=tuple(rules), days=days), shown)
        return shown

    def test_what_is_returned_is_right(self):
        chance = random.Random(781)
        for rules in some_duty_rules(782, 100, 12):
            days = chance.randint(1, 48)
            if kept(duty_book(days, rules)):
                for told, call, sign in CALLS:
                    self.is_same(self.shows(days, rules, call, sign, told(days, rules)), True)

    def test_bent_papers(self):
        chance = random.Random(783)
        count = [0, 0]
        for rules in list(some_duty_rules(784, 40, 6)) + [[], RULES]:
            days = chance.randint(1, 7)
            if kept(duty_book(days, rules)):
                for told, call, sign in CALLS:
                    for other in few(bent_papers(told(days, rules)), chance, 300):
                        count[self.shows(days, rules, call, sign, other)] += 1
        self.assertTrue(count[0] > 5000 and count[1] > 20, count)

    def test_each_duty_that_fits(self):
        count = [0, 0]
        for rules in some_duty_rules(785, 30, 4):
            for days in (1, 3, 5):
                listed = fitting(days, triples(rules))
                for told, call, sign in CALLS:
                    if listed:
                        way = told(days, rules).way
                        for gains in listed + [(0, 2, 0), (2,) * days, (0,) * (days + 1)]:
                            count[self.shows(days, rules, call, sign, Duties(Row(gains), way))] += 1
        self.assertGreater(min(count), 50)

    def test_papers_of_other_days(self):
        for rules in ([], RULES, [Rule(2, 1)], [Rule(5, None, 2)]):
            papers = [told(days, rules) for told, _, _ in CALLS for days in range(1, 7)]
            for days in range(1, 7):
                for _, call, sign in CALLS:
                    for paper in papers:
                        self.shows(days, rules, call, sign, paper)

    def test_each_part(self):
        for row, way, shown in (
                (FEW, HOME, True), (FEW, [list(step) for step in HOME], True), (Row([0, 0, 1, 0]), HOME, True), (Row([0, 1, 1, 0]), HOME, False),
                (Row([0, 0, 0, 1]), HOME, False), (Row([0, 1, 0]), HOME, False), (FEW, HOME[:1], False), (FEW, HOME[::-1], False),
                (FEW, HOME + HOME, False), (FEW, (), False), (FEW, ((4, 1, -1), (3, 0, -1.0)), False), (FEW, ((4, True, -1), (3, 0, -1)), False),
                (FEW, ((4, 1, -1), (3, False, -1)), False), (FEW, FORTH, False), (FEW.gains, HOME, False), (FEW, "way", False),
                (FEW, ((4, 1, -1), (3, 1, 1), (4, 1, -1), (3, 0, -1)), False), (Row([0, 2, -1, 0]), HOME, False)):
            self.is_same(self.shows(4, RULES, shows_fewest, -1, Duties(row, way)), shown)
        for row, way, shown in (
                (MANY, FORTH, True), (Row([1, 0, 1, 1]), ((0, 1, 1), (1, 0, 1)), True), (Row([1, 0, 1, 0]), ((0, 1, 1), (1, 0, 1)), False),
                (Row([1, 1, 1, 0]), FORTH, False), (MANY, HOME, False), (MANY, ((0, 1, 1), (1, 1, 1), (2, 1, 1), (3, 1, 1)), False)):
            self.is_same(self.shows(4, RULES, shows_most, 1, Duties(row, way)), shown)
        self.is_same(self.shows(1, [Rule(1, None, 0)], shows_most, 1, Duties(Row([0]), ((0, 0, 1),))), True)
        self.is_same(self.shows(1, [], shows_fewest, -1, Duties(Row([0]), ((1, 0, -1),))), True)

    def test_no_duty_fits(self):
        for _, call, sign in CALLS:
            for value in OTHER_PAPERS + (Duties(Row([1, 1, 0]), ((3, 2, -1),)), fewest_duties(3, []), most_duties(3, [])):
                self.is_same(self.shows(3, NEVER, call, sign, value), False)

    def test_other_papers(self):
        for told, call, sign in CALLS:
            for value in OTHER_PAPERS + bends.alike(told(4, RULES)):
                self.is_same(self.shows(4, RULES, call, sign, value), False)

    def test_wrong_arguments(self):
        for told, call, _ in CALLS:
            for value in NO_DAYS:
                self.refuses(BadNumber("days"), call, value, RULES, told(4, RULES))
                self.refuses(BadNumber("days"), call, value, None, None)
            for value in NO_LISTS + (RULES[0],):
                self.refuses(BadRule("rules"), call, 4, value, None)
            for value in NO_RULES:
                self.refuses(BadRule("rules"), call, 4, NEVER * 4 + [value], None)
            self.refuses(TooMany("rules", 7), call, 48, NEVER * 4, None)
            self.is_same(call(48, NEVER, None), False)

    def test_time(self):
        rules = [Rule(length, length // 2 - 1, length // 2 + 1) for length in (47, 41, 37, 31, 29, 23, 17)]
        papers = [(call, told(48, rules)) for told, call, _ in CALLS]
        begun = perf_counter()
        for call, paper in papers * 20:
            self.is_same(call(48, rules, paper), True)
        self.assertLess(perf_counter() - begun, 3)
