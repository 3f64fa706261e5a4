"""The examples that the document's interface gives, word for word."""

import unittest
from pathlib import Path

from anyseven import (
    alike, amounts, apart, books, bounds, check_bounds, check_duties, check_kept, check_level, check_longest,
    check_missed, check_paces, check_shares, check_tables, check_unseen, checks, choices, closed, desk, desk_asks,
    desk_deeds, desk_lines, duties, duty_bounds, duty_counts, errors, even, follows, idle, kept, level_lengths,
    level_stretches, levelled, longest, loosened, made, missed, missed_lots, moments, needless, paces,
    pairs_of_lengths, papers, quarrels, rounds, row_shares, rows, rules, sayingbooks, sayings, settled, shares, shelves,
    shorteners, signs, sorts, stories, tables, unlike, unseen, walks)
from tests.support import Case

MODULES = (
    errors, checks, papers, rows, sorts, levelled, rules, books, signs, kept, quarrels, loosened, check_kept, longest,
    pairs_of_lengths, shorteners, check_longest, missed, closed, missed_lots, made, walks, check_missed, moments,
    level_stretches, level_lengths, check_level, bounds, follows, needless, alike, check_bounds, tables, unlike, apart,
    check_tables, paces, even, rounds, settled, check_paces, duties, duty_counts, duty_bounds, check_duties, amounts,
    shares, row_shares, check_shares, sayings, sayingbooks, choices, unseen, idle, check_unseen, desk_lines, shelves,
    desk_deeds, desk_asks, desk, stories)


def examples():
    """The pairs of what is asked and what is told of it, None where nothing is."""
    asked = None
    for line in Path(__file__).with_name("examples.txt").read_text("ascii").splitlines():
        if line.startswith("## "):
            continue
        if line.startswith(">>> "):
            if asked is not None:
                yield asked, None
            asked = line[4:]
        else:
            yield asked, line
            asked = None


class Examples(Case):

    def test_examples(self):
        names = {}
        for module in MODULES:
            names.update({name: value for name, value in vars(module).items() if name[0] != "_"})
        count = 0
        for asked, told in examples():
            count += 1
            with self.subTest(asked):
                if told is None:
                    exec(asked, names)
                elif told.startswith("raises "):
                    self.refuses(eval(told[7:], names), eval, asked, names)
                else:
                    self.assertEqual(repr(eval(asked, names)), told)
        self.assertEqual(count, 149)


if __name__ == "__main__":
    unittest.main()
