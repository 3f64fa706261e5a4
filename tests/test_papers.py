"""Point 3: papers and denials, and what they keep."""

from anyseven.alike import Alike, Unlike
from anyseven.apart import Joined, Parted
from anyseven.books import Empty
from anyseven.bounds import AnyBound, AnyUnbound, Bound, Unbound
from anyseven.closed import Closed, Closure, Makes, NotClosed
from anyseven.duty_bounds import Duties
from anyseven.follows import Breaks, Follows
from anyseven.kept import Kept, Ring
from anyseven.level_stretches import Sign, Stretch
from anyseven.longest import ForEver, Longest
from anyseven.loosened import Loosened, NeverKept
from anyseven.missed import Missed
from anyseven.paces import Clash, Paces
from anyseven.papers import Denial, Paper, fixed
from anyseven.rounds import NoTotal, Totals
from anyseven.row_shares import NoShare, Rest
from anyseven.rows import Row
from anyseven.settled import NoSum, Settled
from anyseven.shares import Share
from anyseven.tables import SignsRing, SignsRow, Table
from anyseven.unlike import BothSigns, Home
from anyseven.unseen import Always, Barred, Found, Never, Open
from tests.support import OTHER, Case

# The classes of papers, their words, whether they are true, and their parts.
CLASSES = (
    (Kept, "kept", True, ("row",)), (Ring, "ring", False, ("steps",)), (Empty, "empty", False, ("one", "other")),
    (Loosened, "loosened", True, ("by", "row", "ring")), (NeverKept, "neverkept", False, ("ring",)),
    (Longest, "longest", True, ("days", "row", "ring")), (ForEver, "forever", False, ("pace",)),
    (Missed, "missed", True, ("signs",)), (Closed, "closed", True, ()), (NotClosed, "notclosed", False, ("one", "other")),
    (Closure, "closure", True, ("lengths",)), (Makes, "makes", False, ("counts",)),
    (Stretch, "stretch", True, ("begin",)), (Sign, "sign", False, ("sign",)),
    (Bound, "bound", True, ("number", "way", "row")), (Unbound, "unbound", False, ("places",)),
    (AnyBound, "anybound", True, ("number", "begin", "row", "ways")), (AnyUnbound, "anyunbound", False, ("begin", "places")),
    (Follows, "follows", True, ("ways",)), (Breaks, "breaks", False, ("row", "begin")),
    (Alike, "alike", True, ("leads",)), (Unlike, "unlike", False, ("row",)),
    (Table, "table", True, ("gaining", "losing")), (SignsRow, "signsrow", True, ("row",)),
    (SignsRing, "signsring", False, ("places",)), (BothSigns, "bothsigns", True, ("row",)), (Home, "home", False, ("places",)),
    (Parted, "parted", True, ("row",)), (Joined, "joined", False, ("length", "counts")),
    (Paces, "paces", True, ("low", "high")), (Clash, "clash", False, ("one", "other")),
    (Totals, "totals", True, ("low", "high")), (NoTotal, "nototal", False, ("one", "other")),
    (Settled, "settled", True, ("most", "forth", "back", "row")), (NoSum, "nosum", False, ("divisor",)),
    (Duties, "duties", True, ("row", "way")), (Share, "share", True, ("first", "last")), (NoShare, "noshare", False, ("sign",)),
    (Rest, "rest", True, ("first", "last")), (Found, "found", True, ("row",)), (Barred, "barred", False, ("rings",)),
    (Always, "always", True, ("rings",)), (Open, "open", True, ("one", "other")), (Never, "never", False, ("rings",)))
VALUES = (0, 1, True, None, "", "text", b"x", 2.5, {"a": [1]}, OTHER, Row([1, 2]), 10 ** 5000)


class Fixed(Case):

    def test_lists_are_tuples_all_the_way_in(self):
        for value, right in (
                ([], ()), ((), ()), ([1], (1,)), ([[1], [2, [3]]], ((1,), (2, (3,)))), ((1, [2, (3, [])]), (1, (2, (3, ())))),
                ([True, None, "a"], (True, None, "a"))):
            self.is_same(fixed(value), right)
            self.is_same(fixed(value=value), right)

    def test_other_values_stay(self):
        for value in VALUES:
            self.assertIs(fixed(value), value)
            self.assertIs(fixed([0, [value]])[1][0], value)
        inner = {"a": [1]}
        self.assertEqual(fixed([inner])[0], {"a": [1]})

    def test_deep_values(self):
        value, right = [7], (7,)
        for _ in range(29):
            value, right = [value], (right,)
        self.is_same(fixed(value), right)

    def test_what_is_passed_stays(self):
        value = [1, [2]]
        fixed(value)
        self.assertEqual(value, [1, [2]])


class Papers(Case):

    def test_words_and_parts(self):
        for kind in (Paper, Denial):
            for parts in ((), (1,), (1, None, "a"), VALUES):
                paper = kind("note", *parts)
                self.is_same(paper.word, "note")
                self.is_same(paper.parts, parts)
            self.is_same(kind("note", [1, [2]], ([],)).parts, ((1, (2,)), ((),)))
            self.assertEqual(kind(word="note").word, "note")

    def test_truth(self):
        for parts in ((), (0,), (False,), (None, []), (1, 2)):
            self.is_same(bool(Paper("a", *parts)), True)
            self.is_same(bool(Denial("a", *parts)), False)
        self.is_same(bool(Kept(None)), True)
        self.is_same(bool(Ring([1])), False)
        self.is_same(bool(Empty(1, 2)), False)

    def test_what_stands_below_what(self):
        self.assertTrue(issubclass(Denial, Paper))
        self.assertTrue(issubclass(Kept, Paper))
        self.assertFalse(issubclass(Kept, Denial))
        self.assertTrue(issubclass(Ring, Denial))
        self.assertTrue(issubclass(Empty, Denial))

    def test_parts_are_copied(self):
        inner = [1, [2]]
        paper = Paper("a", inner)
        inner[1].append(3)
        inner.append(4)
        self.is_same(paper.parts, ((1, (2,)),))

    def test_equal_papers(self):
        for one, other in (
                (Paper("a"), Paper("a")), (Paper("a", 1, [2]), Paper("a", 1, (2,))), (Denial("a", []), Denial("a", ())),
                (Paper("a", 1), Paper("a", True)), (Paper("a", Row([1])), Paper("a", Row((1,)))),
                (Kept(Row([1])), Kept(row=Row([1]))), (Ring([[0, 0, 1]]), Ring(steps=((0, 0, 1),))),
                (Empty(0, 1), Empty(other=1, one=0))):
            self.is_same(one == other, True)
            self.is_same(one != other, False)

    def test_unlike_papers(self):
        kept = Kept(Row([1]))
        self.differs(kept, [Kept(Row([2])), Paper("kept", Row([1])), Denial("kept", Row([1])), Row([1]), ("kept", 1), None])
        self.differs(Paper("a", 1), [
            Paper("b", 1), Paper("a", 2), Paper("a"), Paper("a", 1, 1), Denial("a", 1), 1, "a", (1,), OTHER])
        self.differs(Denial("a", 1), [Denial("b", 1), Denial("a", 2), Denial("a"), Paper("a", 1), False, 0, None])
        self.differs(Ring([]), [Denial("ring", ()), Ring([[]]), Empty([], []), Paper("ring", ())])
        self.differs(Empty(1, 2), [Empty(2, 1), Denial("empty", 1, 2), Ring((1, 2))])

    def test_classes_of_papers_keep_any_values(self):
        for value in VALUES:
            for paper in (Kept(value), Kept(row=value)):
                self.assertIs(paper.row, value)
                self.is_same((paper.word, paper.parts), ("kept", (value,)))
            for paper in (Ring(value), Ring(steps=value)):
                self.assertIs(paper.steps, value)
                self.is_same((paper.word, paper.parts), ("ring", (value,)))
            for paper in (Empty(value, 5), Empty(other=5, one=value)):
                self.assertIs(paper.one, value)
                self.is_same((paper.word, paper.parts, paper.other), ("empty", (value, 5), 5))
        self.is_same(Ring([[0, 0, 1], (3, 0, 1)]).steps, ((0, 0, 1), (3, 0, 1)))
        self.is_same(Kept([[1]]).row, ((1,),))
        self.is_same((Empty([1], [2]).one, Empty([1], [2]).other), ((1,), (2,)))

    def test_each_class(self):
        for kind, word, truth, names in CLASSES:
            self.assertEqual(kind.__name__.lower(), word)
            self.assertTrue(issubclass(kind, Paper))
            self.is_same(issubclass(kind, Denial), not truth)
            for at in range(len(VALUES)):
                parts = (VALUES[at:] + VALUES[:at])[:len(names)]
                for paper in (kind(*parts), kind(**dict(zip(names[::-1], parts[::-1])))):
                    self.is_same((paper.word, paper.parts, bool(paper)), (word, parts, truth))
                    for name, part in zip(names, parts):
                        self.assertIs(getattr(paper, name), part)
                    self.is_same(paper == kind(*parts), True)
                    self.is_same(paper != kind(*parts), False)

    def test_parts_of_each_class_are_copied(self):
        for kind, _, _, names in CLASSES:
            inner = [1, [2, (3, [])]]
            paper = kind(*[inner] * len(names))
            inner[1].append(4)
            inner.append(5)
            for name, part in zip(names, paper.parts):
                self.is_same(part, (1, (2, (3, ()))))
                self.is_same(getattr(paper, name), part)

    def test_papers_of_each_class_differ(self):
        for kind, word, truth, names in CLASSES:
            paper = kind(*[7] * len(names))
            plain = [Paper(word, *paper.parts), Denial(word, *paper.parts), paper.parts, word, truth, None]
            others = [other(*[7] * len(more)) for other, _, _, more in CLASSES if other is not kind]
            bent = [kind(*[8 if at == part else 7 for at in range(len(names))]) for part in range(len(names))]
            self.differs(paper, plain + others + bent)
