"""The head of the interface: names, arguments, and where each function, class and method stands."""

import ast
import inspect
import unittest
from importlib import import_module
from pathlib import Path

FOLDER = Path(__file__).resolve().parent.parent / "anyseven"

FUNCTIONS = {
    "checks": (
        "is_integer(value)", "is_within(value, least, most)", "is_name(value)", "are_integers(value)",
        "is_fraction(value)", "are_lengths(value)", "first_twice(values)", "common_divisor(one, other)",
        "lowest(number, by)"),
    "papers": ("fixed(value)",),
    "sorts": (
        "sums(row, length)", "sort_of(row, length)", "table_words(row)", "least_sum(row, length)",
        "greatest_sum(row, length)"),
    "levelled": ("is_level(row)", "steady(row)", "levelled(row)"),
    "signs": ("gaining(lengths)", "losing(lengths)", "sign_book(days, gaining, losing)"),
    "kept": ("kept(book)", "cost_of(book, steps)", "upper(one, other)", "lower(one, other)"),
    "quarrels": ("quarrels(book)",),
    "loosened": ("loosened(book, number)",),
    "check_kept": ("shows_kept(book, value)", "shows_loosened(book, number, value)"),
    "longest": ("longest(rules)",),
    "pairs_of_lengths": ("pair_longest(one, other)", "pair_ring(one, other)", "pair_row(one, other)"),
    "shorteners": ("clashes(rules)", "without_each(rules)", "shorteners(rules)"),
    "check_longest": ("shows_longest(rules, value)",),
    "missed": ("missed(row)", "never_missed(days)"),
    "closed": ("closed(days, lengths)", "closure(days, lengths)"),
    "missed_lots": ("missed_lots(days)", "many_missed_lots(days)", "greatest_lots(days)"),
}
CLASSES = {
    "papers": {"Paper(word, *parts)": ("__eq__", "__bool__"), "Denial(word, *parts)": ("__eq__", "__bool__")},
    "rows": {"Row(gains)": (
        "__len__", "__eq__", "__str__", "sum_of(begin, length)", "part(begin, length)", "backwards()", "times(number)",
        "plus(number)", "joined(other)", "added(other)", "of(heights)", "read(text)")},
    "rules": {"Rule(length, low=None, high=None)": (
        "__eq__", "__str__", "read(text)", "keeps(row)", "first_broken(row)", "turned()", "times(number)",
        "added(other)")},
    "books": {
        "Book(days, rules)": (
            "__eq__", "__str__", "read(text)", "keeps(row)", "first_broken(row)", "with_rule(rule)", "without(numbers)",
            "with_days(days)", "turned()", "together()"),
        "Empty(one, other)": ()},
    "kept": {"Kept(row)": (), "Ring(steps)": ()},
    "loosened": {"Loosened(by, row, ring)": (), "NeverKept(ring)": ()},
    "longest": {"Longest(days, row, ring)": (), "ForEver(pace)": ()},
    "missed": {"Missed(signs)": ()},
    "closed": {"Closed()": (), "NotClosed(one, other)": (), "Closure(lengths)": (), "Makes(counts)": ()},
}
STATIC = ("of", "read")


def defined(module, kind):
    """The nodes of this kind in the body of a file, by their names."""
    tree = ast.parse((FOLDER / f"{module}.py").read_text("ascii"))
    return {node.name: node for node in tree.body if isinstance(node, kind)}


class Interface(unittest.TestCase):

    def test_functions(self):
        for module, told in FUNCTIONS.items():
            nodes = defined(module, ast.FunctionDef)
            for line in told:
                name = line.partition("(")[0]
                self.assertIn(name, nodes)
                found = getattr(import_module(f"anyseven.{module}"), name)
                self.assertEqual(f"{name}{inspect.signature(found)}", line)

    def test_classes(self):
        for module, told in CLASSES.items():
            nodes = defined(module, ast.ClassDef)
            for line, methods in told.items():
                name = line.partition("(")[0]
                self.assertIn(name, nodes)
                found = getattr(import_module(f"anyseven.{module}"), name)
                self.assertEqual(f"{name}{inspect.signature(found)}", line)
                for method in methods:
                    self.method_stands(found, method)

    def method_stands(self, kind, line):
        name, _, arguments = line.partition("(")
        self.assertIn(name, vars(kind))
        if arguments:
            self.assertEqual(isinstance(vars(kind)[name], staticmethod), name in STATIC)
            plain = getattr(kind, name) if name in STATIC else getattr(object.__new__(kind), name)
            self.assertEqual(f"{name}{inspect.signature(plain)}", line)


if __name__ == "__main__":
    unittest.main()
