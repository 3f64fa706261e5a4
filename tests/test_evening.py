"""Points 4 to 12 and 15 to 17: one book told five ways, and an evening at the desk, agree with one another."""

import random
from itertools import combinations

from anyseven.books import Book
from anyseven.bounds import any_greatest, any_least, greatest, least
from anyseven.check_kept import shows_kept
from anyseven.check_longest import shows_longest
from anyseven.check_paces import shows_paces
from anyseven.check_unseen import shows_judged, shows_some_row
from anyseven.desk import Desk
from anyseven.errors import Impossible
from anyseven.even import even_row
from anyseven.follows import follows
from anyseven.idle import idle, one_wrong, saying_quarrels
from anyseven.kept import kept
from anyseven.longest import longest
from anyseven.missed import missed
from anyseven.needless import needless, tightened
from anyseven.paces import paces, simplest_pace
from anyseven.quarrels import quarrels
from anyseven.rounds import Round
from anyseven.rows import Row
from anyseven.rules import Rule
from anyseven.sayingbooks import SayingBook
from anyseven.sayings import Just, Some, Told, saying_text
from anyseven.settled import settled, settled_from
from anyseven.sorts import sort_of, sums
from anyseven.stories import parting, replay
from anyseven.tables import table_of
from anyseven.unseen import judged, some_row
from tests.anew import tight_rules
from tests.support import Case
from tests.test_paces import some_rules


def books(seed, count, most_days=9):
    chance = random.Random(seed)
    for number, rules in enumerate(some_rules(seed + 1, count, most_days, 2)):
        days = chance.randint(1, most_days)
        # Half of them tell narrow bounds, so that many of these are not kept.
        yield Book(days, rules if number % 2 else tight_rules(chance, days, chance.randint(2, 6), 1))


def as_sayings(book):
    """The same told of an unseen row: a rule says of any stretch what its begins, told one by one, would."""
    return SayingBook(book.days, book.rules)


def told_on_desk(book):
    """A desk with the book as k, and the same as a saying book as u."""
    desk = Desk()
    desk.told(f"book k {book.days}", f"unseen u {book.days}")
    for rule in book.rules:
        desk.told(f"rule k {rule}", f"say u any {rule}")
    return desk


class FiveWays(Case):

    def test_kept(self):
        seen = [0, 0]
        for book in books(1001, 150):
            paper, unseen, desk = kept(book), some_row(as_sayings(book)), told_on_desk(book)
            seen[bool(paper)] += 1
            self.is_same(bool(unseen), bool(paper))
            self.is_same(desk.told("kept k", "kept u"), ("kept", "found") if paper else ("ring", "barred"))
            self.is_same((shows_kept(book, paper), shows_some_row(as_sayings(book), unseen)), (True, True))
            if paper:
                self.is_same((as_sayings(book).keeps(paper.row), book.keeps(unseen.row)), (True, True))
                desk.told(f"row a {paper.row}", f"row b {unseen.row}")
                self.is_same(desk.told("keeps a k", "keeps a u", "keeps b k", "keeps b u"), ("yes",) * 4)
            else:
                # The one choice of the saying book is the book itself, with the same steps.
                self.is_same(shows_kept(book, type(paper)(unseen.rings[0])), True)
                self.is_same(shows_some_row(as_sayings(book), type(unseen)([paper.steps])), True)
        self.assertGreater(min(seen), 30)

    def test_longest(self):
        for book in books(1002, 60, 6):
            paper, desk = longest(book.rules), told_on_desk(book)
            self.is_same(shows_longest(book.rules, paper), True)
            answers = []
            for days in range(1, 13):
                answers.append(desk.tried(f"days k {days}", "kept k")[1])
                self.is_same(answers[-1] == "kept", bool(some_row(as_sayings(book.with_days(days)))))
            lasting = len([answer for answer in answers if answer == "kept"])
            self.is_same(answers, ["kept"] * lasting + ["ring"] * (12 - lasting))
            self.is_same(desk("longest k"), str(paper.days) if paper else "forever")
            self.is_same(lasting, min(12, paper.days) if paper else 12)
            self.is_same(desk("pace k") == "clash", bool(paper))

    def test_bounds(self):
        count = [0, 0]
        for book in books(1003, 60, 6):
            if not kept(book):
                continue
            desk, unseen = told_on_desk(book), as_sayings(book)
            for begin in range(book.days):
                for length in range(1, book.days - begin + 1):
                    most, fewest = greatest(book, begin, length), least(book, begin, length)
                    answers = desk.told(f"most k {begin} {length}", f"least k {begin} {length}")
                    self.is_same(answers, tuple(str(paper.number) if paper else "-" for paper in (most, fewest)))
                    count[bool(most)] += 1
                    if most:
                        words = [judged(unseen, Told(begin, length, None, most.number - by)).word for by in (0, 1)]
                        self.is_same((words[0], words[1] == "always"), ("always", False))
                        self.is_same(desk(f"is u told {begin} {length} - {most.number}"), "always")
                    else:
                        self.is_same(judged(unseen, Told(begin, length, None, 10 ** 9)).word, "open")
                    if fewest:
                        words = [judged(unseen, Told(begin, length, fewest.number + by)).word for by in (0, 1)]
                        self.is_same((words[0], words[1] == "always"), ("always", False))
        self.assertGreater(min(count), 50)

    def test_bounds_of_any(self):
        for book in books(1004, 60, 6):
            if not kept(book):
                continue
            unseen = as_sayings(book)
            for length in range(1, book.days + 1):
                most, fewest = any_greatest(book, length), any_least(book, length)
                if most:
                    self.is_same(judged(unseen, Rule(length, None, most.number)).word, "always")
                    self.is_same(judged(unseen, Some(length, most.number)).word == "never", False)
                    self.is_same(judged(unseen, Some(length, most.number + 1)).word, "never")
                if fewest:
                    self.is_same(judged(unseen, Some(length, None, fewest.number - 1)).word, "never")
                if most and fewest:
                    self.is_same(str(tightened(book.with_rule(Rule(length, fewest.number, most.number)))),
                        str(tightened(book.with_rule(Rule(length, fewest.number)))))

    def test_follows_and_idle(self):
        chance = random.Random(1005)
        for book in books(1006, 100, 7):
            desk, unseen = told_on_desk(book), as_sayings(book)
            if not kept(book):
                for line in ("needless k", "follows k 1 1 -"):
                    self.refuses(Impossible(kept(book)), desk, line)
                for line in ("idle u", "is u just 1 1"):
                    self.refuses(Impossible(some_row(unseen)), desk, line)
                continue
            length = chance.randint(1, book.days)
            rule = Rule(length, length * 2 - 2, length * 3 + 2)
            self.is_same(judged(unseen, rule).word == "always", bool(follows(book, rule)))
            self.is_same(desk(f"follows k {rule}") == "follows", desk(f"is u any {rule}") == "always")
            self.is_same((needless(book), desk("needless k")), (idle(unseen), desk("idle u")))
            self.is_same(shows_judged(unseen, rule, judged(unseen, rule)), True)

    def test_quarrels(self):
        seen = [0, 0]
        for book in books(1007, 120):
            desk, unseen = told_on_desk(book), as_sayings(book)
            self.is_same((quarrels(book), desk("quarrels k")), (saying_quarrels(unseen), desk("quarrels u")))
            seen[quarrels(book) == ()] += 1
            # What is struck out of both leaves as much.
            for number in one_wrong(unseen):
                self.is_same(desk.tried(f"strike k {number}", "kept k", f"strike u {number}", "kept u")[1::2], ("kept", "found"))
            for numbers in quarrels(book):
                others = [number for number in range(len(book.rules)) if number not in numbers]
                if others:
                    self.is_same(desk.tried("strike k " + " ".join(map(str, others)), "kept k")[1], "ring")
        self.assertGreater(min(seen), 20)

    def test_turned(self):
        for book in books(1008, 60, 7):
            desk = told_on_desk(book)
            before = desk.told("kept k", "kept u", "longest k", "quarrels k", "quarrels u")
            self.is_same(desk.tried("turn k", "turn u", "kept k", "kept u", "longest k", "quarrels k", "quarrels u")[2:], before)

    def test_paces(self):
        for book in books(1009, 80, 7):
            rules, paper = book.rules, paces(book.rules)
            self.is_same(shows_paces(rules, paper), True)
            if not paper:
                continue
            number, by = simplest_pace(rules)
            about = Round(even_row((number, by), 0, by).gains) if by <= 48 else None
            row = even_row((number, by), 0, book.days)
            self.is_same((book.keeps(row), as_sayings(book).keeps(row)), (True, True))
            self.is_same(all(about.keeps(rule) for rule in rules) if about else True, True)
            days = max(12, settled_from(rules))
            if days == 12:
                wide = SayingBook(12, rules)
                for length in (1, 2, 5):
                    told = settled(rules, length)
                    if told:
                        self.is_same(judged(wide, Rule(length, None, told.most)).word, "always")
                        self.is_same(judged(wide, Rule(length, None, told.most - 1)).word == "always", False)

    def test_rows_of_the_answers(self):
        for book in books(1010, 60, 7):
            paper = kept(book)
            if paper:
                desk = told_on_desk(book)
                desk(f"row a {paper.row}")
                table = table_of(paper.row)
                texts = [" ".join(map(str, lengths)) or "-" for lengths in table.parts]
                self.is_same(desk("table a"), " / ".join(texts))
                for rule in book.rules:
                    if rule.length <= book.days:
                        self.is_same(rule.keeps(paper.row), True)
                        self.is_same(desk(f"sums a {rule.length}"), " ".join(map(str, sums(paper.row, rule.length))))
                        self.is_same(desk(f"sort a {rule.length}"), sort_of(paper.row, rule.length))


class Evening(Case):

    def test_a_whole_evening(self):
        desk = Desk()
        self.is_same(desk.told("book k 16", "rule k 11 1 -", "rule k 7 - -1", "kept k", "longest k", "pace k"), ("1", "0", "1", "kept",
            "16", "clash"))
        self.is_same(desk.told("days k 17", "kept k", "quarrels k"), ("2", "ring", "0 1"))
        self.is_same(desk.undo(), "days k 17")
        row = kept(Book(16, [Rule(11, 1), Rule(7, None, -1)])).row
        self.is_same(desk.told(f"row best {row}", "keeps best k", "sort best 7", "sort best 11"), (str(row.total), "yes", "loses", "gains"))
        self.is_same(desk.told("row walk -1 3 -1 -3 0 3 -1", "missed walk", "table walk"), ("0", "4 6", "6 / 4"))
        self.is_same(missed(Row([-1, 3, -1, -3, 0, 3, -1])).signs, ((4, -1), (6, 1)))
        self.is_same(desk.told("unseen u 7", "say u told 0 7 0 0", "say u any 6 1 -", "is u any 4 - -1", "kept u"), ("4", "0", "1", "open", "found"))
        self.is_same(desk.told("keeps walk u", "is u just 1 0", "is u just 7 0", "is u any 1 1 -"), ("yes", "always", "always", "never"))
        self.is_same(desk("names"), "k best walk u")
        again = replay(desk.story)
        self.is_same((again == desk, parting(again, desk)), (True, len(desk.story)))
        again.undo(), again("say u any 4 - -1")
        self.is_same((again == desk, parting(again, desk)), (False, len(desk.story) - 1))
        self.is_same(again("kept u"), "found")

    def test_stories_of_any_books(self):
        for book in books(1011, 40, 7):
            desk = told_on_desk(book)
            self.is_same(len(desk.story), 2 + 2 * len(book.rules))
            for number in range(len(book.rules)):
                desk("strike k 0")
                self.is_same(desk("show k"), f"book {book.without(list(range(number + 1)))}")
            self.is_same(desk("show k"), f"book {book.days} : -")
            for _ in book.rules:
                desk.undo()
            self.is_same(desk.told("show k", "show u"), (f"book {book}", f"unseen {as_sayings(book)}"))
            self.is_same(replay(desk.story), desk)

    def test_sayings_said_one_behind_another(self):
        sayings = [Rule(2, None, -1), Told(0, 3, 1), Some(1, 2), Just(1, 0)]
        desk = Desk()
        desk("unseen u 3")
        for many, saying in enumerate(sayings):
            book = SayingBook(3, sayings[:many])
            word = judged(book, saying).word if some_row(book) else None
            self.is_same(desk(f"is u {saying_text(saying)}"), word)
            self.is_same(desk(f"say u {saying_text(saying)}"), str(many))
            self.is_same(desk(f"is u {saying_text(saying)}"), "always")
        self.is_same(desk("idle u"), " ".join(map(str, idle(SayingBook(3, sayings)))))
        for numbers in combinations(range(4), 2):
            self.is_same(desk.tried("strike u " + " ".join(map(str, numbers)), "kept u")[1], "found")
