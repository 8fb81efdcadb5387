"""Whether a book is possible: a world that keeps it, or what each choice of it lacks."""

from borderwords.books import require_book
from borderwords.errors import Impossible
from borderwords.fields import rows_with
from borderwords.papers import Denial, Paper
from borderwords.readings import read_book, words_taken
from borderwords.worlds import World


class Kept(Paper):
    """A world that keeps the book."""

    def __init__(self, world):
        super().__init__("kept", world)
        self.world = self.parts[0]


class Barred(Denial):
    """For each choice of the book the words taken, and a need that no border has that is let."""

    def __init__(self, rows):
        super().__init__("barred", rows)
        self.rows = self.parts[0]


def possible(book):
    """The Kept of some world that keeps the book, or the Barred of the first need in each row."""
    require_book(book, "book")
    return possible_by(read_book(book))


def possible_by(told):
    """As possible, of the readings of a book."""
    rows = []
    for row in told.choice_rows():
        let = told.let_by(row)
        lack = told.first_lack(let, row)
        if lack is None:
            return Kept(World(rows_with(told.field, let, told.needed_of(row))))
        rows.append((words_taken(row), lack))
    return Barred(rows)


def require_possible(book):
    """Raise Impossible for a book that no world keeps."""
    require_possible_by(read_book(book))


def require_possible_by(told):
    """As require_possible, of the readings of a book."""
    paper = possible_by(told)
    if not paper:
        raise Impossible(paper)
