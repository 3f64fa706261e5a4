"""The head of the interface: names, arguments, and where each function, class and method stands."""

import ast
import inspect
import unittest
from importlib import import_module
from pathlib import Path

FOLDER = Path(__file__).resolve().parent.parent / "anyseven"

FUNCTIONS = {
    "checks": (
        "is_integer(value)", "is_within(value, least, most)", "is_name(value)", "are_integers(value)",
        "is_fraction(value)", "are_lengths(value)", "first_twice(values)", "common_divisor(one, other)",
        "lowest(number, by)"),
    "papers": ("fixed(value)",),
    "sorts": (
        "sums(row, length)", "sort_of(row, length)", "table_words(row)", "least_sum(row, length)",
        "greatest_sum(row, length)"),
    "levelled": ("is_level(row)", "steady(row)", "levelled(row)"),
    "signs": ("gaining(lengths)", "losing(lengths)", "sign_book(days, gaining, losing)"),
    "kept": ("kept(book)", "cost_of(book, steps)", "upper(one, other)", "lower(one, other)"),
    "quarrels": ("quarrels(book)",),
    "loosened": ("loosened(book, number)",),
    "check_kept": ("shows_kept(book, value)", "shows_loosened(book, number, value)"),
    "longest": ("longest(rules)",),
    "pairs_of_lengths": ("pair_longest(one, other)", "pair_ring(one, other)", "pair_row(one, other)"),
    "shorteners": ("clashes(rules)", "without_each(rules)", "shorteners(rules)"),
    "check_longest": ("shows_longest(rules, value)",),
    "missed": ("missed(row)", "never_missed(days)"),
    "closed": ("closed(days, lengths)", "closure(days, lengths)"),
    "missed_lots": ("missed_lots(days)", "many_missed_lots(days)", "greatest_lots(days)"),
    "made": ("made_row(days, lengths)",),
    "walks": ("walk_lots(days)",),
    "check_missed": (
        "shows_missed(row, value)", "shows_closed(days, lengths, value)", "shows_closure(days, lengths, value)",
        "shows_made(days, lengths, value)"),
    "moments": ("height_at(row, moment)", "sum_between(row, first, last)", "cut_finer(row, parts)"),
    "level_stretches": ("sum_begins(row, length, amount)", "level_stretch(row, length)", "average_stretch(row, length)"),
    "level_lengths": ("level_lengths(row)", "other_lengths(row)"),
    "check_level": ("shows_level(row, length, value)", "shows_average(row, length, value)"),
    "bounds": (
        "greatest(book, begin, length)", "least(book, begin, length)", "any_greatest(book, length)",
        "any_least(book, length)"),
    "follows": ("follows(book, rule)",),
    "needless": ("needless(book)", "tightened(book)"),
    "alike": ("alike(days, one, other)",),
    "check_bounds": (
        "shows_greatest(book, begin, length, value)", "shows_least(book, begin, length, value)",
        "shows_any_greatest(book, length, value)", "shows_any_least(book, length, value)",
        "shows_follows(book, rule, value)", "shows_alike(days, one, other, value)"),
    "tables": (
        "table_of(row)", "signs_row(days, gaining, losing, is_level=False)",
        "forced(days, gaining, losing, is_level=False)"),
    "unlike": ("unlike_pairs(days)", "unlike(days, gaining, losing)", "all_tables(days)"),
    "apart": ("apart(days, missed, others)",),
    "check_tables": (
        "shows_table(row, value)", "shows_signs(days, gaining, losing, is_level, value)",
        "shows_unlike(days, gaining, losing, value)", "shows_apart(days, missed, others, value)"),
    "paces": ("paces(rules)", "simplest_pace(rules)"),
    "even": ("even_gain(pace, day)", "even_row(pace, begin, days)"),
    "rounds": ("totals(days, rules)",),
    "settled": ("settled(rules, length)", "settled_from(rules)"),
    "check_paces": (
        "shows_paces(rules, value)", "shows_totals(days, rules, value)", "shows_settled(rules, length, value)"),
    "duties": ("is_duty(row)", "duty_book(days, rules)", "rested(rules)"),
    "duty_counts": (
        "many_duties(days, rules)", "many_from(days, rules, begun)", "day_counts(days, rules)",
        "duty_at(days, rules, number)", "number_of(rules, row)", "all_duties(days, rules)"),
    "duty_bounds": ("fewest_duties(days, rules)", "most_duties(days, rules)", "sure_days(days, rules)"),
    "check_duties": ("shows_fewest(days, rules, value)", "shows_most(days, rules, value)"),
    "shares": ("share_of_round(amounts, share)",),
    "row_shares": (
        "share_of_row(amounts, share)", "share_or_rest(amounts, share)", "half(amounts)", "share_spans(amounts)"),
    "check_shares": (
        "shows_round(amounts, share, value)", "shows_row(amounts, share, value)",
        "shows_or_rest(amounts, share, value)"),
    "sayings": ("saying_text(saying)", "read_saying(text)"),
    "choices": ("choices_of(days, saying)", "contrary_of(days, saying)", "many_choices(book)"),
    "unseen": ("some_row(book)", "judged(book, saying)"),
    "idle": ("idle(book)", "saying_quarrels(book)", "one_wrong(book)"),
    "check_unseen": ("shows_some_row(book, value)", "shows_judged(book, saying, value)"),
    "desk_lines": ("read_line(line)",),
    "desk_deeds": ("changed(shelf, line)",),
    "desk_asks": ("answer_of(shelf, line)",),
    "stories": ("replay(lines)", "parting(one, other)"),
}
CLASSES = {
    "papers": {"Paper(word, *parts)": ("__eq__", "__bool__"), "Denial(word, *parts)": ("__eq__", "__bool__")},
    "rows": {"Row(gains)": (
        "__len__", "__eq__", "__str__", "sum_of(begin, length)", "part(begin, length)", "backwards()", "times(number)",
        "plus(number)", "joined(other)", "added(other)", "of(heights)", "read(text)")},
    "rules": {"Rule(length, low=None, high=None)": (
        "__eq__", "__str__", "read(text)", "keeps(row)", "first_broken(row)", "turned()", "times(number)",
        "added(other)")},
    "books": {
        "Book(days, rules)": (
            "__eq__", "__str__", "read(text)", "keeps(row)", "first_broken(row)", "with_rule(rule)", "without(numbers)",
            "with_days(days)", "turned()", "together()"),
        "Empty(one, other)": ()},
    "kept": {"Kept(row)": (), "Ring(steps)": ()},
    "loosened": {"Loosened(by, row, ring)": (), "NeverKept(ring)": ()},
    "longest": {"Longest(days, row, ring)": (), "ForEver(pace)": ()},
    "missed": {"Missed(signs)": ()},
    "closed": {"Closed()": (), "NotClosed(one, other)": (), "Closure(lengths)": (), "Makes(counts)": ()},
    "level_stretches": {"Stretch(begin)": (), "Sign(sign)": ()},
    "bounds": {
        "Bound(number, way, row)": (), "Unbound(places)": (), "AnyBound(number, begin, row, ways)": (),
        "AnyUnbound(begin, places)": ()},
    "follows": {"Follows(ways)": (), "Breaks(row, begin)": ()},
    "alike": {"Alike(leads)": (), "Unlike(row)": ()},
    "tables": {"Table(gaining, losing)": (), "SignsRow(row)": (), "SignsRing(places)": ()},
    "unlike": {"BothSigns(row)": (), "Home(places)": ()},
    "apart": {"Parted(row)": (), "Joined(length, counts)": ()},
    "paces": {"Paces(low, high)": (), "Clash(one, other)": ()},
    "rounds": {
        "Round(gains)": (
            "__len__", "__eq__", "sum_of(begin, length)", "sort_of(length)", "keeps(rule)", "turned(by)", "twice()",
            "row(begin, days)"),
        "Totals(low, high)": (), "NoTotal(one, other)": ()},
    "settled": {"Settled(most, forth, back, row)": (), "NoSum(divisor)": ()},
    "duty_bounds": {"Duties(row, way)": ()},
    "amounts": {
        "Amounts(pairs)": (
            "__eq__", "__str__", "read(text)", "parts(first, last)", "turned(by)", "backwards()", "exchanged()",
            "cut(parts)")},
    "shares": {"Share(first, last)": ()},
    "row_shares": {"NoShare(sign)": (), "Rest(first, last)": ()},
    "sayings": {
        "Some(length, low=None, high=None)": ("__eq__", "__str__", "read(text)", "keeps(row)", "turned()"),
        "Just(length, number)": ("__eq__", "__str__", "read(text)", "keeps(row)", "turned()"),
        "Told(begin, length, low=None, high=None)": ("__eq__", "__str__", "read(text)", "keeps(row)", "turned()")},
    "sayingbooks": {
        "SayingBook(days, sayings)": (
            "__eq__", "__str__", "read(text)", "keeps(row)", "first_broken(row)", "with_saying(saying)",
            "without(numbers)", "turned()", "backwards()")},
    "unseen": {
        "Found(row)": (), "Barred(rings)": (), "Always(rings)": (), "Open(one, other)": (), "Never(rings)": ()},
    "shelves": {"Shelf(things=())": ("__eq__", "thing(name)")},
    "desk": {
        "Desk()": (
            "__len__", "__contains__", "__eq__", "__call__(line)", "told(*lines)", "tried(*lines)", "undo()", "redo()",
            "twin()")},
}
STATIC = ("of", "read")


def defined(module, kind):
    """The nodes of this kind in the body of a file, by their names."""
    tree = ast.parse((FOLDER / f"{module}.py").read_text("ascii"))
    return {node.name: node for node in tree.body if isinstance(node, kind)}


class Interface(unittest.TestCase):

    def test_functions(self):
        for module, told in FUNCTIONS.items():
            nodes = defined(module, ast.FunctionDef)
            for line in told:
                name = line.partition("(")[0]
                self.assertIn(name, nodes)
                found = getattr(import_module(f"anyseven.{module}"), name)
                self.assertEqual(f"{name}{inspect.signature(found)}", line)

    def test_classes(self):
        for module, told in CLASSES.items():
            nodes = defined(module, ast.ClassDef)
            for line, methods in told.items():
                name = line.partition("(")[0]
                self.assertIn(name, nodes)
                found = getattr(import_module(f"anyseven.{module}"), name)
                self.assertEqual(f"{name}{inspect.signature(found)}", line)
                for method in methods:
                    self.method_stands(found, method)

    def method_stands(self, kind, line):
        name, _, arguments = line.partition("(")
        self.assertIn(name, vars(kind))
        if arguments:
            self.assertEqual(isinstance(vars(kind)[name], staticmethod), name in STATIC)
            plain = getattr(kind, name) if name in STATIC else getattr(object.__new__(kind), name)
            self.assertEqual(f"{name}{inspect.signature(plain)}", line)


if __name__ == "__main__":
    unittest.main()
