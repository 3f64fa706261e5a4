"""The errors of the package: each keeps its fields in attributes of their names."""


class DayError(ValueError):
    """The base of all errors of the package."""


class BadRow(DayError):
    """What is passed is, or makes, no row."""

    def __init__(self, part):
        self.part = part


class BadRule(DayError):
    """What is passed is, or makes, no rule, or no list of rules."""

    def __init__(self, part):
        self.part = part


class BadBook(DayError):
    """What is passed is no book."""

    def __init__(self, part):
        self.part = part


class BadLot(DayError):
    """What is passed is no list of lengths."""

    def __init__(self, part):
        self.part = part


class BadFraction(DayError):
    """What is passed is no fraction, or none within the bounds."""

    def __init__(self, part):
        self.part = part


class BadRound(DayError):
    """What is passed is, or makes, no round."""

    def __init__(self, part):
        self.part = part


class BadAmounts(DayError):
    """What is passed is, or makes, no amounts."""

    def __init__(self, part):
        self.part = part


class BadSaying(DayError):
    """What is passed is, or makes, no saying."""

    def __init__(self, part):
        self.part = part


class BadNumber(DayError):
    """What is passed is no integer, or no list of them, within the bounds."""

    def __init__(self, part):
        self.part = part


class BadPaper(DayError):
    """What is passed is no paper, or no part of one, that is asked for."""

    def __init__(self, part):
        self.part = part


class BadDesk(DayError):
    """What is passed is, or makes, no desk."""

    def __init__(self, part):
        self.part = part


class Misfit(DayError):
    """What is passed does not fit together."""

    def __init__(self, part):
        self.part = part


class Missing(DayError):
    """A value that is none here."""

    def __init__(self, value):
        self.value = value


class NoRule(Missing):
    """A value that is no number of a rule."""


class NoSaying(Missing):
    """A value that is no number of a saying."""


class NoName(Missing):
    """A value under which nothing is kept."""


class Twice(DayError):
    """A value that stands there already."""

    def __init__(self, value):
        self.value = value


class Impossible(DayError):
    """What is asked for is not there; a denial shows it."""

    def __init__(self, paper):
        self.paper = paper


class TooMany(DayError):
    """There are more than most."""

    def __init__(self, what, most):
        self.what = what
        self.most = most


class Nothing(DayError):
    """There is nothing to take back, or to do again."""


class BadText(DayError):
    """An item of a text that cannot stand, or is missing."""

    def __init__(self, line, item):
        self.line = line
        self.item = item


class BadLine(DayError):
    """A line of a desk, and the error that was raised there."""

    def __init__(self, line, error):
        self.line = line
        self.error = error
