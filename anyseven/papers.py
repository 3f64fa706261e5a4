"""Papers tell an answer and what shows it; denials say no."""


def fixed(value):
    """The value with tuples in the place of lists, all the way in."""
    if isinstance(value, (list, tuple)):
        return tuple([fixed(item) for item in value])
    return value


class Paper:
    """An answer, with a word and parts."""

    def __init__(self, word, *parts):
        self.word = word
        self.parts = fixed(parts)

    def __eq__(self, other):
        if isinstance(other, Paper) and type(self) is type(other):
            return self.word == other.word and self.parts == other.parts
        return False

    def __bool__(self):
        return True


class Denial(Paper):
    """A paper that says no."""

    def __eq__(self, other):
        if isinstance(other, Denial) and type(self) is type(other):
            return self.word == other.word and self.parts == other.parts
        return False

    def __bool__(self):
        return False
