"""Whether a book is possible: a world that keeps it, or what each choice of it lacks."""

from borderwords.books import require_book
from borderwords.errors import Impossible
from borderwords.fields import book_bits, field_of, lacks_of, rows_with
from borderwords.papers import Denial, Paper
from borderwords.sayings import Says
from borderwords.worlds import World


class Kept(Paper):
    """A world that keeps the book."""

    def __init__(self, world):
        super().__init__("kept", world)
        self.world = self.parts[0]


class Barred(Denial):
    """For each choice of the book the words taken, and a need that no border has that is let."""

    def __init__(self, rows):
        super().__init__("barred", rows)
        self.rows = self.parts[0]


def possible(book):
    """The Kept of some world that keeps the book, or the Barred of the first need in each row."""
    require_book(book, "book")
    field = field_of(book.lands)
    rows = []
    for number in range(book.choices):
        single = book.choice(number)
        let, needed = book_bits(field, single)
        lacks = lacks_of(let, needed)
        if len(lacks) == 0:
            return Kept(World(rows_with(field, let, needed)))
        rows.append((words_taken(single), lacks[0]))
    return Barred(rows)


def require_possible(book):
    """Raise Impossible for a book that no world keeps."""
    paper = possible(book)
    if not paper:
        raise Impossible(paper)


def words_taken(single):
    """The words of a book of one word, one for each Says in order."""
    return tuple([saying.words[0] for saying in single.sayings if isinstance(saying, Says)])
