"""What the deed lines of a desk do."""

from borderwords.books import Book, book_of
from borderwords.desk_lines import DEEDS, numbers_text, read_among
from borderwords.least import least_book
from borderwords.quarrels import taken_back
from borderwords.shelves import require_names, require_shelf
from borderwords.vanish import vanished


def book_put(shelf, name, *lands):
    """Keep a book of these lands, without sayings."""
    book = Book(lands)
    return shelf.with_thing(name, book), str(len(book.lands))


def books_joined(shelf, name, one, other):
    """Keep the book of the lands and the sayings of two books."""
    first, second = shelf.book(one), shelf.book(other)
    lands = sorted(set(first.lands + second.lands))
    return book_kept(shelf, name, Book(lands, first.sayings + second.sayings))


def saying_told(shelf, name, saying):
    """Put a saying behind those of a book."""
    book = shelf.book(name)
    return shelf.with_thing(name, book.with_saying(saying)), str(len(book))


def sayings_struck(shelf, name, *numbers):
    """Take sayings out of a book."""
    return book_kept(shelf, name, shelf.book(name).without(numbers))


def book_mended(shelf, name):
    """Take out of a book the sayings without which it is possible."""
    book = shelf.book(name)
    numbers = taken_back(book).numbers
    return shelf.with_thing(name, book.without(numbers)), numbers_text(numbers)


def book_lessened(shelf, name):
    """Take out of a book all sayings that the others tell."""
    book = shelf.book(name)
    return book_kept(shelf, name, book_of(book, least_book(book).numbers))


def world_put(shelf, name, world):
    """Keep a world."""
    return world_kept(shelf, name, world)


def worlds_joined(shelf, name, one, other):
    """Keep one world beside another one."""
    return world_kept(shelf, name, shelf.world(one).beside(shelf.world(other)))


def cells_vanished(shelf, name, row, start, end):
    """Let cells of a world vanish."""
    return world_kept(shelf, name, vanished(shelf.world(name), row, start, end))


def thing_dropped(shelf, name):
    """Take out a thing."""
    left = shelf.without(name)
    return left, str(len(left.names))


def book_kept(shelf, name, book):
    """The shelf with this book, and how many sayings the book has."""
    return shelf.with_thing(name, book), str(len(book))


def world_kept(shelf, name, world):
    """The shelf with this world, and how many cells the world has."""
    return shelf.with_thing(name, world), str(len(world))


DONE = {
    "book": book_put,
    "join": books_joined,
    "tell": saying_told,
    "strike": sayings_struck,
    "mend": book_mended,
    "least": book_lessened,
    "world": world_put,
    "beside": worlds_joined,
    "vanish": cells_vanished,
    "drop": thing_dropped,
}


def changed(shelf, line):
    """The shelf behind a deed line, and the answer to it."""
    require_shelf(shelf, "shelf")
    told = read_among(line, DEEDS)
    require_names(shelf, told)
    deed = DONE[told[0]]
    values = told[1:]
    return deed(shelf, *values)
