"""Desks: told lines, they keep books and worlds, answer, and can take back."""

from borderwords.desk_asks import answer_of
from borderwords.desk_deeds import changed
from borderwords.desk_lines import DEEDS
from borderwords.errors import BadDesk, BadLine, Nothing, WordsError
from borderwords.shelves import Shelf


class Desk:
    """Keeps things, and the story of the deeds that put them there."""

    def __init__(self):
        self.shelf = Shelf()
        self.story = ()
        # The shelf ahead of each line of the story; and each line taken back, the last one last, with its shelf.
        self.past = ()
        self.later = ()

    def __call__(self, line):
        return self.answered(line)

    def answered(self, line):
        """The answer to a line, which is done if it is a deed line."""
        if is_deed(line):
            return self.done(line)
        return answer_of(self.shelf, line)

    def done(self, line):
        """The answer to a deed line alone, which is done."""
        shelf, answer = changed(self.shelf, line)
        self.go_on(line, shelf)
        self.later = ()
        return answer

    def told(self, *lines):
        """The tuple of the answers, line by line; nothing is done if one raises an error."""
        shelf, story, past, later = self.shelf, self.story, self.past, self.later
        answers = []
        for index, line in enumerate(lines):
            try:
                answers.append(self.answered(line))
            except WordsError as error:
                self.shelf, self.story, self.past, self.later = shelf, story, past, later
                raise BadLine(index, error) from error
        return tuple(answers)

    def tried(self, *lines):
        """As told, of a desk that is as this one; this one stays as it is."""
        twin = self.twin()
        return twin.told(*lines)

    def undo(self):
        """Take back the last line of the story."""
        if len(self.story) == 0:
            raise Nothing()
        line = self.story[-1]
        self.later = self.later + ((line, self.shelf),)
        self.shelf = self.past[-1]
        self.story = self.story[:-1]
        self.past = self.past[:-1]
        return line

    def redo(self):
        """Do again the line that was taken back last."""
        if len(self.later) == 0:
            raise Nothing()
        line, shelf = self.later[-1]
        self.go_on(line, shelf)
        self.later = self.later[:-1]
        return line

    def go_on(self, line, shelf):
        """Put a line behind the story, and this shelf in the place of the one ahead."""
        self.past = self.past + (self.shelf,)
        self.story = self.story + (line,)
        self.shelf = shelf

    def twin(self):
        """A desk that is in all as this one."""
        other = Desk()
        other.shelf = self.shelf
        other.story = self.story
        other.past = self.past
        other.later = self.later
        return other

    def __len__(self):
        return len(self.shelf.names)

    def __contains__(self, value):
        return isinstance(value, str) and value in self.shelf.names

    def __eq__(self, other):
        return isinstance(other, Desk) and self.shelf == other.shelf


def is_deed(line):
    """Whether any value is a text that begins as a deed line."""
    return isinstance(line, str) and line.split(" ")[0] in DEEDS


def require_desk(value, part):
    """Raise BadDesk for what is no desk."""
    if not isinstance(value, Desk):
        raise BadDesk(part)
