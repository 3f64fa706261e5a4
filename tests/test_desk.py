"""Point 17: a desk that is told lines, tries them, takes deeds back and does them again."""

import random
from time import perf_counter

from anyseven.books import Book
from anyseven.desk import Desk
from anyseven.desk_asks import answer_of
from anyseven.desk_deeds import changed
from anyseven.desk_lines import ASKS
from anyseven.errors import BadLine, BadNumber, BadText, DayError, Impossible, Misfit, NoName, NoRule, Nothing, Twice
from anyseven.kept import kept
from anyseven.rows import Row
from anyseven.rules import Rule
from anyseven.shelves import Shelf
from tests.anew_desk import FORMS, right_lines
from tests.support import NO_STRINGS, OTHER, Alike, Case
from tests.test_desk_lines import NO_NAMES

EVENING = ("book k 7", "rule k 3 - -1", "rule k 5 1 -", "row a 1 2", "turn a")
WRONG_LINES = (
    ("drop z", NoName("z")), ("row a", BadText(0, 2)), ("row a 1", Twice("a")), ("book z 0", BadNumber("days")), ("strike k 2", NoRule(2)),
    ("say k just 1 1", Misfit("kinds")), ("names x", BadText(0, 1)), ("", BadText(0, 0)), (None, BadText(0, 0)), (7, BadText(0, 0)),
    ("most k 0 1", Impossible(kept(Book(7, [Rule(3, None, -1), Rule(5, 1)])))), ("day a " + "9" * 61, BadText(0, 2)))


def shelf_of(story):
    """The shelf behind these deed lines, from the beginning."""
    shelf = Shelf()
    for line in story:
        shelf, _ = changed(shelf, line)
    return shelf


class Model:
    """A desk told once more: a story and what was taken back, with the shelf made anew each time."""

    def __init__(self):
        self.story, self.undone = [], []

    def line(self, line):
        shelf = shelf_of(self.story)
        if isinstance(line, str) and line.split(" ")[0] in ASKS:
            return answer_of(shelf, line)
        answer = changed(shelf, line)[1]
        self.story.append(line)
        self.undone = []
        return answer

    def lines(self, lines):
        before, answers = (list(self.story), list(self.undone)), []
        for at, line in enumerate(lines):
            try:
                answers.append(self.line(line))
            except DayError as error:
                self.story, self.undone = before
                return BadLine(at, error)
        return tuple(answers)


class DeskCase(Case):

    def stands(self, desk, story, undone=()):
        """The desk has this story, and just these lines to do again, the next one last."""
        self.is_same(desk.story, tuple(story))
        self.is_same(type(desk.shelf), Shelf)
        self.is_same(desk.shelf, shelf_of(story))
        self.is_same(len(desk), len(desk.shelf.names))
        other = desk.twin()
        again = []
        while True:
            try:
                again.append(other.redo())
            except Nothing:
                break
        self.is_same(again[::-1], list(undone))


class Told(DeskCase):

    def test_new_desks(self):
        self.stands(Desk(), ())
        self.is_same((Desk().shelf, Desk().story, len(Desk()), "a" in Desk()), (Shelf(), (), 0, False))

    def test_lines(self):
        desk = Desk()
        self.is_same(desk.told("book k 7", "rule k 3 - -1", "rule k 5 1 -", "kept k", "longest k", "quarrels k"), ("1", "0", "1", "ring", "6", "0 1"))
        self.stands(desk, EVENING[:3])
        self.is_same(desk.told(), ())
        self.is_same(desk.told("names"), ("k",))
        self.stands(desk, EVENING[:3])

    def test_lines_one_by_one(self):
        desk = Desk()
        for line, answer in zip(EVENING, ("1", "0", "1", "3", "2")):
            self.is_same(desk(line), answer)
        self.stands(desk, EVENING)
        self.is_same(desk(line="show a"), "row -1 -2")
        self.stands(desk, EVENING)

    def test_deeds_that_change_nothing(self):
        desk = Desk()
        lines = ("row a 0 0", "turn a", "book k 3", "days k 3", "turn k")
        desk.told(*lines)
        self.stands(desk, lines)
        self.is_same(desk.undo(), "turn k")

    def test_refused_lines(self):
        for line, error in WRONG_LINES:
            desk = Desk()
            desk.told(*EVENING)
            desk.undo()
            self.refuses(error, desk, line)
            self.refuses(error, desk, line=line)
            self.stands(desk, EVENING[:4], EVENING[4:])
            for ahead in range(4):
                lines = ["day a 1", "names", "row b 5"][:ahead] + [line, "drop a"]
                self.refuses(BadLine(ahead, error), desk.told, *lines)
                self.refuses(BadLine(ahead, error), desk.tried, *lines)
                self.stands(desk, EVENING[:4], EVENING[4:])
        for value in NO_STRINGS:
            self.refuses(BadText(0, 0), Desk(), value)
            self.refuses(BadLine(0, BadText(0, 0)), Desk().told, value)
            self.refuses(BadLine(1, BadText(0, 0)), Desk().tried, "names", value)

    def test_the_first_line_that_is_refused(self):
        desk = Desk()
        self.refuses(BadLine(0, NoName("a")), desk.told, "drop a", "row a 1", None)
        self.refuses(BadLine(1, Twice("a")), desk.told, "row a 1", "row a 2", "drop z")
        self.refuses(BadLine(2, NoName("a")), desk.told, "row a 1", "drop a", "show a")
        self.stands(desk, ())

    def test_tried(self):
        desk = Desk()
        desk.told(*EVENING)
        desk.undo()
        self.is_same(desk.tried("drop k", "names", "row b 7", "names"), ("1", "a", "7", "a b"))
        self.stands(desk, EVENING[:4], EVENING[4:])
        self.is_same(desk.tried(), ())
        self.is_same(Desk().tried("row a 1", "show a"), ("1", "row 1"))

    def test_attributes_are_up_to_date(self):
        desk = Desk()
        shelf = desk.shelf
        desk("row a 1")
        self.is_same((shelf, desk.shelf, desk.story), (Shelf(), Shelf([("a", Row([1]))]), ("row a 1",)))
        desk.undo()
        self.is_same((desk.shelf, desk.story), (Shelf(), ()))


class TakenBack(DeskCase):

    def test_nothing_to_take_back(self):
        desk = Desk()
        for call in (desk.undo, desk.redo):
            self.refuses(Nothing(), call)
        desk.told("names")
        self.refuses(Nothing(), desk.undo)
        desk.told("row a 1")
        self.refuses(Nothing(), desk.redo)
        desk.undo()
        self.refuses(Nothing(), desk.undo)
        self.stands(desk, (), ["row a 1"])

    def test_back_and_again(self):
        desk = Desk()
        desk.told(*EVENING)
        for many in range(len(EVENING) - 1, -1, -1):
            self.is_same(desk.undo(), EVENING[many])
            self.stands(desk, EVENING[:many], EVENING[many:][::-1])
        for many, line in enumerate(EVENING):
            self.is_same(desk.redo(), line)
            self.stands(desk, EVENING[:many + 1], EVENING[many + 1:][::-1])
        self.refuses(Nothing(), desk.redo)

    def test_asks_tries_and_refused_lines_leave_what_was_taken_back(self):
        desk = Desk()
        desk.told(*EVENING)
        desk.undo(), desk.undo()
        desk.told("names", "show k"), desk("kept k"), desk.tried("drop k", "row b 1")
        self.refuses(NoName("z"), desk, "drop z")
        self.refuses(BadLine(1, NoName("z")), desk.told, "drop k", "drop z")
        self.refuses(BadLine(1, NoName("z")), desk.tried, "drop k", "drop z")
        self.refuses(BadText(0, 0), desk, None)
        self.stands(desk, EVENING[:3], EVENING[3:][::-1])

    def test_a_new_deed_leaves_nothing_to_do_again(self):
        for line in ("turn k", "row b 1", "drop k", "days k 7"):
            for call in (lambda desk, some: desk(some), lambda desk, some: desk.told("names", some, "names")):
                desk = Desk()
                desk.told(*EVENING)
                desk.undo(), desk.undo()
                call(desk, line)
                self.stands(desk, EVENING[:3] + (line,))
                self.refuses(Nothing(), desk.redo)

    def test_what_was_taken_back_leaves_no_trace(self):
        desk, other = Desk(), Desk()
        desk.told("row a 1 2", "row b 3"), desk.undo(), desk.told("row c 4"), desk.undo(), desk.undo()
        other.told("row c 4")
        desk.told("row c 4")
        self.is_same((desk.shelf, desk.story, desk.told("names")), (other.shelf, other.story, ("c",)))
        # A thing that is dropped and taken back keeps its place.
        desk.told("row a 1", "row b 2", "drop c"), desk.undo()
        self.is_same(desk("names"), "c a b")

    def test_against_the_model(self):
        chance = random.Random(981)
        texts = [line for line in right_lines() if line.split(" ")[0] not in ("row", "book", "unseen", "join", "drop")]
        news = ("row a 1 -1 2", "row b 0", "book k 5", "book l 7", "unseen u 3", "unseen v 4", "join c a b", "join d c a", "drop a",
            "drop k", "drop u", "row a")
        seen = {}
        for _ in range(40):
            desk, model = Desk(), Model()
            for _ in range(40):
                deed = chance.choice(("call", "call", "told", "tried", "undo", "undo", "redo", "redo", "twin"))
                lines = [chance.choice(news if chance.random() < 0.5 else texts) for _ in range(chance.randint(0, 3))]
                if deed == "twin":
                    desk = desk.twin()
                elif deed in ("undo", "redo"):
                    source, target = (model.story, model.undone) if deed == "undo" else (model.undone, model.story)
                    if source:
                        self.is_same(getattr(desk, deed)(), source[-1])
                        target.append(source.pop())
                        seen[deed] = seen.get(deed, 0) + 1
                    else:
                        self.refuses(Nothing(), getattr(desk, deed))
                elif deed == "call":
                    self.same_answer(desk, model, chance.choice(news), seen)
                else:
                    before = (list(model.story), list(model.undone))
                    right = model.lines(lines)
                    if isinstance(right, BadLine):
                        self.refuses(right, getattr(desk, deed), *lines)
                    else:
                        self.is_same(getattr(desk, deed)(*lines), right)
                    if deed == "tried":
                        model.story, model.undone = before
                    seen[deed, isinstance(right, BadLine)] = seen.get((deed, isinstance(right, BadLine)), 0) + 1
                self.is_same((desk.story, desk.shelf), (tuple(model.story), shelf_of(model.story)))
            self.stands(desk, model.story, model.undone)
        self.is_same(len(seen), 8)
        self.assertGreater(min(seen.values()), 20)

    def same_answer(self, desk, model, line, seen):
        try:
            right = model.line(line)
        except DayError as error:
            self.refuses(error, desk, line)
            seen["call", True] = seen.get(("call", True), 0) + 1
            return
        self.is_same(desk(line), right)
        seen["call", False] = seen.get(("call", False), 0) + 1


class Twins(DeskCase):

    def test_a_twin_is_alike_in_all(self):
        desk = Desk()
        desk.told(*EVENING)
        desk.undo()
        twin = desk.twin()
        self.is_same((type(twin), twin == desk, twin is desk), (Desk, True, False))
        self.stands(twin, EVENING[:4], EVENING[4:])
        self.is_same([twin.redo(), twin.undo(), twin.undo()], [EVENING[4], EVENING[4], EVENING[3]])
        self.stands(desk, EVENING[:4], EVENING[4:])

    def test_neither_changes_the_other(self):
        desk = Desk()
        desk.told(*EVENING)
        twin = desk.twin()
        twin.told("drop k", "row b 9"), desk.undo(), desk.undo()
        self.stands(twin, EVENING + ("drop k", "row b 9"))
        self.stands(desk, EVENING[:3], EVENING[3:][::-1])
        desk("row c 1"), twin.undo()
        self.stands(twin, EVENING + ("drop k",), ["row b 9"])
        self.stands(desk, EVENING[:3] + ("row c 1",))

    def test_equal_desks(self):
        desk, other = Desk(), Desk()
        self.is_same(desk == other, True)
        desk.told("row a 1", "row b 2"), other.told("row a 1", "row b 3", "turn b", "turn b", "drop b", "row b 2")
        self.is_same((desk == other, desk != other), (True, False))
        other("turn b")
        self.differs(desk, [other, Desk(), desk.shelf, None, desk.story, "desk", OTHER])
        switched = Desk()
        switched.told("row b 2", "row a 1")
        self.differs(desk, [switched])


class Within(DeskCase):

    def test_names(self):
        desk = Desk()
        desk.told("row a 1", "book kk 3", "unseen u 2")
        self.is_same([name in desk for name in ("a", "kk", "u")], [True] * 3)
        for value in NO_NAMES + ("k", "b", "row", None, True, 0, 1, 2.5, b"a", [], ["a"], ("a",), {}, {"a"}, OTHER, Desk, Row([1]), desk,
            "a" * 20000):
            self.is_same(value in desk, False)
        self.is_same(Alike() in desk, False)
        self.is_same(len(desk), 3)
        desk("drop a")
        self.is_same(("a" in desk, len(desk)), (False, 2))
        desk.undo()
        self.is_same(("a" in desk, len(desk)), (True, 3))


class Large(DeskCase):

    def test_each_line_of_the_tables(self):
        for line in right_lines():
            desk = Desk()
            desk.told("row a 1 -1", "book k 6", "rule k 3 - 1", "unseen u 12", "say u any 2 0 -")
            try:
                answer = desk(line)
            except DayError as error:
                self.refuses(BadLine(0, error), desk.told, line)
                self.is_same(len(desk.story), 5)
                continue
            self.is_same(type(answer), str)
            self.is_same(len(desk.story), 5 if line.split(" ")[0] in ASKS else 6)
        self.is_same(len(FORMS), 29)

    def test_time(self):
        desk = Desk()
        begun = perf_counter()
        for number in range(100):
            desk(f"row a{number} {number}")
        for _ in range(300):
            desk("turn a7")
        for _ in range(400):
            desk.undo()
        for _ in range(400):
            desk.redo()
        self.is_same((len(desk), len(desk.story)), (100, 400))
        self.assertLess(perf_counter() - begun, 3)
