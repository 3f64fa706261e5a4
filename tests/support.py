"""What several test files use: values of other kinds, and errors compared with their fields."""

import unittest

from anyseven import errors


class Other:
    """An object of a class that the package does not know."""


class Alike:
    """An object that says that it equals all."""

    def __eq__(self, other):
        return True


OTHER = Other()
NO_INTEGERS = (True, False, None, "", "1", "a", b"1", 1.0, 2.5, [], [1], (1,), {}, {1: 1}, {1}, OTHER, int)
NO_LISTS = (True, False, None, 0, 1, 2.5, "", "12", b"12", {}, {1: 1}, {1}, range(1, 3), iter([1]), OTHER, list)
NO_LISTS_OF_INTEGERS = NO_LISTS + (
    [True], [1, False], [None], ["1"], [1.0], [[1]], (1, (2,)), [{}], [1, OTHER])
NO_STRINGS = (True, False, None, 0, 7, 2.5, b"1", [], ["1"], (), {}, OTHER, str)


def same(one, other):
    """Whether two values are equal, in their kinds, too, so that 1 is not True and [] is not ()."""
    if type(one) is not type(other):
        return False
    if isinstance(one, errors.DayError):
        return same(vars(one), vars(other))
    if isinstance(one, (list, tuple)):
        return len(one) == len(other) and all(same(*pair) for pair in zip(one, other))
    if isinstance(one, dict):
        return same(list(one.items()), list(other.items()))
    return one is other or one == other


def few(values, chance, most):
    """Some of the values, as they come, if there are more."""
    values = list(values)
    return values if len(values) <= most else chance.sample(values, most)


def shown(value):
    """The value as a failing test shows it, cut short."""
    try:
        if isinstance(value, errors.DayError):
            return f"{type(value).__name__}{list(vars(value).values())!r}"[:300]
        return repr(value)[:300]
    except ValueError:
        return "a value with very long integers"


class Case(unittest.TestCase):
    """A test that can ask for an error of the package with its fields."""

    def refuses(self, error, call, *args, **more):
        """The call raises an error of just this class with just these fields."""
        try:
            answer = call(*args, **more)
        except errors.DayError as raised:
            answer = raised
            if same(raised, error):
                return
        self.fail(f"{shown(answer)} instead of {shown(error)} for {shown(args)} {shown(more)}")

    def is_same(self, one, other):
        """Both values are equal in their kinds, too."""
        if not same(one, other):
            self.fail(f"{shown(one)} instead of {shown(other)}")

    def differs(self, value, others):
        """The value equals none of these, asked either way, and is not counted as equal to them."""
        for other in others:
            self.is_same(value == other, False)
            self.is_same(other == value, False)
            self.is_same(value != other, True)

    def bends(self, read, text, wrong):
        """A right text is refused at each item, if a wrong one stands there, or none behind it.

        wrong tells for each item of the text what cannot stand in its place.
        """
        items = text.split(" ")
        self.assertEqual(len(items), len(wrong))
        self.assertEqual(str(read(text)), text)
        for at, others in enumerate(wrong):
            for other in others:
                bent = " ".join(items[:at] + [other] + items[at + 1:])
                self.refuses(errors.BadText(0, at), read, bent)
                cut = " ".join(items[:at] + [other])
                self.refuses(errors.BadText(0, at), read, cut)


NO_NUMBER_ITEMS = (
    "", "-", "+1", "01", "-01", "00", "-0", "--1", "1-", "1.0", "1e3", "1_0", "x", "\u0663", "\u00b2", "1\n", "\t1",
    "0x1", "None", "1" * 61, "-" + "9" * 61, ":", "/")
