"""Whether a value is a right paper of a book that is possible, or is not."""

from borderwords.books import require_book
from borderwords.papers import is_among, is_just, is_own
from borderwords.possible import Barred, Kept
from borderwords.readings import read_book, words_taken
from borderwords.worlds import World


def shows_possible(book, value):
    """Whether any value is a right Kept or Barred of the book."""
    require_book(book, "book")
    if isinstance(value, Kept) and is_own(value, "Kept"):
        return is_kept_by(book, value.world)
    return is_barred_by(book, value)


def is_barred_by(book, value):
    """Whether any value is a right Barred of the book."""
    return is_barred_of(read_book(book), value)


def is_barred_of(told, value):
    """Whether any value is a right Barred of a book, told by its readings."""
    return isinstance(value, Barred) and is_own(value, "Barred") and are_barred(told, value.rows)


def is_kept_by(book, value):
    """Whether any value is a world that keeps the book."""
    return isinstance(value, World) and value.lands == book.lands and book.first_broken(value) is None


def are_barred(told, rows):
    """Whether there is one right row for each choice, in order."""
    choices = told.choice_rows()
    if not isinstance(rows, tuple) or len(rows) != len(choices):
        return False
    return all([is_barred(told, choice, row) for choice, row in zip(choices, rows)])


def is_barred(told, choice, row):
    """Whether a row tells the words of this choice, and a need that no border has which it lets."""
    if not isinstance(row, tuple) or len(row) != 2 or not is_just(row[0], words_taken(choice)):
        return False
    return is_among(row[1], told.lacks_of(choice))
