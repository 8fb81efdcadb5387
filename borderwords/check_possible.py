"""Whether a value is a right paper of a book that is possible, or is not."""

from borderwords.books import require_book
from borderwords.fields import book_bits, field_of, lacks_of
from borderwords.papers import is_just, is_own
from borderwords.possible import Barred, Kept, words_taken
from borderwords.worlds import World


def shows_possible(book, value):
    """Whether any value is a right Kept or Barred of the book."""
    require_book(book, "book")
    if isinstance(value, Kept) and is_own(value, "Kept"):
        return is_kept_by(book, value.world)
    return is_barred_by(book, value)


def is_barred_by(book, value):
    """Whether any value is a right Barred of the book."""
    return isinstance(value, Barred) and is_own(value, "Barred") and are_barred(book, value.rows)


def is_kept_by(book, value):
    """Whether any value is a world that keeps the book."""
    return isinstance(value, World) and value.lands == book.lands and book.first_broken(value) is None


def are_barred(book, rows):
    """Whether there is one right row for each choice, in order."""
    if not isinstance(rows, tuple) or len(rows) != book.choices:
        return False
    field = field_of(book.lands)
    return all([is_barred(field, book.choice(number), row) for number, row in enumerate(rows)])


def is_barred(field, single, row):
    """Whether a row tells the words of this book of one word, and a need that no let border has."""
    if not isinstance(row, tuple) or len(row) != 2 or not is_just(row[0], words_taken(single)):
        return False
    let, needed = book_bits(field, single)
    return any([is_just(row[1], need) for need in lacks_of(let, needed)])
