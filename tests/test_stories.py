"""Point 17: stories told again, and how far two of them are alike."""

from time import perf_counter

from anyseven.desk import Desk
from anyseven.errors import BadDesk, BadLine, BadNumber, BadText, Misfit, NoName, Nothing, Twice
from anyseven.shelves import Shelf
from anyseven.stories import parting, replay
from tests.anew_desk import ASK_FORMS, right_lines
from tests.support import NO_LISTS, OTHER, Case

STORY = ("book k 7", "rule k 3 - -1", "rule k 5 1 -", "row a 1 2", "turn a", "drop k", "join b a a")
NO_DESKS = (True, False, None, 0, "desk", [], (), STORY, {}, OTHER, Desk, Shelf())


class Replay(Case):

    def test_each_begin_of_a_story(self):
        for many in range(len(STORY) + 1):
            desk = Desk()
            desk.told(*STORY[:many])
            for other in (replay(STORY[:many]), replay(lines=list(STORY[:many])), replay(desk.story)):
                self.is_same((type(other), other == desk, other.story), (Desk, True, STORY[:many]))
                self.refuses(Nothing(), other.redo)
                # It can take them back.
                self.is_same([other.undo() for _ in range(many)], list(STORY[:many][::-1]))
                self.is_same((other.shelf, other.story), (Shelf(), ()))
                self.refuses(Nothing(), other.undo)

    def test_new_desks(self):
        one, other = replay(STORY), replay(STORY)
        one("drop a")
        self.is_same((one == other, one is other, other.story), (False, False, STORY))

    def test_what_is_no_list_of_strings(self):
        for value in NO_LISTS + ("row a 1", Desk(), "abc"):
            self.refuses(BadDesk("lines"), replay, value)
        for value in (True, None, 0, 2.5, b"row a 1", [], ["row a 1"], (), {}, OTHER, str):
            self.refuses(BadDesk("lines"), replay, [value])
            self.refuses(BadDesk("lines"), replay, list(STORY) + ["names", "x", value])

    def test_lines_that_are_refused(self):
        for line, error in (
                ("drop z", NoName("z")), ("row a 1", Twice("a")), ("row", BadText(0, 1)), ("", BadText(0, 0)), ("xyz", BadText(0, 0)),
                ("book z 0", BadNumber("days")),
                ("rule a 1 1 -", Misfit("kinds")), ("join c a", BadText(0, 3))):
            for many in (4, 5, 7):
                self.refuses(BadLine(many, error), replay, STORY[:many] + (line, "drop zz", "names"))
        self.refuses(BadLine(0, NoName("a")), replay, ["drop a"])

    def test_first_items_of_ask_lines(self):
        for line in list(right_lines(ASK_FORMS)) + ["names x y", "show", "kept  ", "is u say"]:
            self.refuses(BadLine(0, BadText(0, 0)), replay, [line])
            self.refuses(BadLine(2, BadText(0, 0)), replay, list(STORY[:2]) + [line, "drop z"])
        # The first line that is refused, whatever it is.
        self.refuses(BadLine(1, NoName("z")), replay, ["book k 7", "drop z", "names"])
        self.refuses(BadLine(1, BadText(0, 0)), replay, ["book k 7", "names", "drop z"])

    def test_time(self):
        begun = perf_counter()
        desk = replay(["row a 1 -1"] + ["turn a", "day a 1", "drop a", "row a 2"] * 500)
        self.is_same((len(desk.story), len(desk)), (2001, 1))
        self.assertLess(perf_counter() - begun, 3)


class Parting(Case):

    def test_all_begins(self):
        fork = STORY[:3] + ("row a 1 3",) + STORY[4:]
        for one in range(len(STORY) + 1):
            for other in range(len(STORY) + 1):
                self.is_same(parting(replay(STORY[:one]), replay(STORY[:other])), min(one, other))
                self.is_same(parting(other=replay(fork[:other]), one=replay(STORY[:one])), min(one, other, 3))

    def test_twins(self):
        desk = replay(STORY)
        twin = desk.twin()
        self.is_same(parting(desk, desk), 7)
        twin.undo(), twin("turn a")
        self.is_same((parting(desk, twin), parting(twin, desk)), (6, 6))
        desk.undo(), desk("turn a")
        self.is_same(parting(desk, twin), 7)
        self.is_same(parting(Desk(), desk), 0)

    def test_equal_desks_with_other_stories(self):
        one, other = replay(["row a 1", "row b 2", "drop b"]), replay(["row a 1"])
        self.is_same((one == other, parting(one, other)), (True, 1))
        self.is_same(parting(replay(["row a 1"]), replay(["row a 1", "turn a", "turn a"])), 1)
        self.is_same(parting(replay(["row a 0"]), replay(["row a 1"])), 0)

    def test_no_desks(self):
        for value in NO_DESKS:
            self.refuses(BadDesk("one"), parting, value, Desk())
            self.refuses(BadDesk("one"), parting, value, value)
            self.refuses(BadDesk("other"), parting, Desk(), value)
            self.refuses(BadDesk("other"), parting, other=value, one=Desk())
