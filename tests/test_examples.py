"""The examples that the document's interface gives, word for word."""

import unittest
from pathlib import Path

from anyseven import (
    books, check_kept, check_longest, checks, closed, errors, kept, levelled, longest, loosened, missed, missed_lots,
    pairs_of_lengths, papers, quarrels, rows, rules, shorteners, signs, sorts)
from tests.support import Case

MODULES = (
    errors, checks, papers, rows, sorts, levelled, rules, books, signs, kept, quarrels, loosened, check_kept, longest,
    pairs_of_lengths, shorteners, check_longest, missed, closed, missed_lots)


def examples():
    """The pairs of what is asked and what is told of it, None where nothing is."""
    asked = None
    for line in Path(__file__).with_name("examples.txt").read_text("ascii").splitlines():
        if line.startswith("## "):
            continue
        if line.startswith(">>> "):
            if asked is not None:
                yield asked, None
            asked = line[4:]
        else:
            yield asked, line
            asked = None


class Examples(Case):

    def test_examples(self):
        names = {}
        for module in MODULES:
            names.update({name: value for name, value in vars(module).items() if name[0] != "_"})
        count = 0
        for asked, told in examples():
            count += 1
            with self.subTest(asked):
                if told is None:
                    exec(asked, names)
                elif told.startswith("raises "):
                    self.refuses(eval(told[7:], names), eval, asked, names)
                else:
                    self.assertEqual(repr(eval(asked, names)), told)
        self.assertEqual(count, 58)


if __name__ == "__main__":
    unittest.main()
