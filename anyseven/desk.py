"""The desk: a shelf that is told lines, and can take them back."""

from anyseven.desk_asks import answer_of
from anyseven.desk_deeds import changed
from anyseven.desk_lines import DEEDS
from anyseven.errors import BadDesk, BadLine, DayError, Nothing
from anyseven.shelves import Shelf


class Desk:
    """Things that are changed line by line; it keeps nothing at first."""

    def __init__(self):
        self.shelf = Shelf()
        self.story = ()
        # The shelves ahead of each line of the story, and the lines taken back, the last one last.
        self._earlier = ()
        self._undone = ()

    def __len__(self):
        return len(self.shelf.names)

    def __contains__(self, value):
        return isinstance(value, str) and value in self.shelf.names

    def __eq__(self, other):
        return isinstance(other, Desk) and self.shelf == other.shelf

    def __call__(self, line):
        return self._answer(line)

    def told(self, *lines):
        """The tuple of the answers to these lines; the desk stays as it is if one of them is refused."""
        later = self.twin()
        answers = later._answers(lines)
        self._become(later)
        return answers

    def tried(self, *lines):
        """The tuple of the answers to these lines; the desk stays as it is."""
        return self.twin()._answers(lines)

    def undo(self):
        """Takes back the last line of the story, and returns it."""
        if len(self.story) == 0:
            raise Nothing()
        line = self.story[-1]
        self.shelf = self._earlier[-1]
        self.story = self.story[:-1]
        self._earlier = self._earlier[:-1]
        self._undone = self._undone + (line,)
        return line

    def redo(self):
        """Does again the line that was taken back last, and returns it."""
        if len(self._undone) == 0:
            raise Nothing()
        line, rest = self._undone[-1], self._undone[:-1]
        self._answer(line)
        self._undone = rest
        return line

    def twin(self):
        """A Desk that is in all as this one."""
        other = Desk()
        other._become(self)
        return other

    def _become(self, other):
        self.shelf = other.shelf
        self.story = other.story
        self._earlier = other._earlier
        self._undone = other._undone

    def _answers(self, lines):
        answers = []
        for at, line in enumerate(lines):
            try:
                answer = self._answer(line)
            except DayError as error:
                raise BadLine(at, error)
            answers.append(answer)
        return tuple(answers)

    def _answer(self, line):
        if not is_deed(line):
            return answer_of(self.shelf, line)
        later, answer = changed(self.shelf, line)
        self._earlier = self._earlier + (self.shelf,)
        self.shelf = later
        self.story = self.story + (line,)
        self._undone = ()
        return answer


def is_deed(value):
    """Whether it is a string with the first item of a deed line."""
    return isinstance(value, str) and value.split(" ")[0] in DEEDS


def need_desk(value, part):
    """Raises BadDesk for what is no Desk."""
    if not isinstance(value, Desk):
        raise BadDesk(part)
