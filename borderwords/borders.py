"""Which borders a book of one word lets, and what it needs."""

from borderwords.books import require_single
from borderwords.checks import require_border
from borderwords.errors import BadSaying
from borderwords.fields import Field, book_bits, borders_at, field_of, saying_bits
from borderwords.papers import is_just


def let_borders(book):
    """The tuple of the borders of its lands that the book lets, in order."""
    require_single(book, "book")
    field = field_of(book.lands)
    let, _ = book_bits(field, book)
    return borders_at(field, let)


def bars(book, border):
    """The number of the first saying that bars the border, None if it is let."""
    require_single(book, "book")
    field = Field([require_border(border, "border", book.lands)])
    for number, saying in enumerate(book.sayings):
        barred, _ = saying_bits(field, saying, number)
        if barred != 0:
            return number
    return None


def needs(book):
    """The tuple of the needs of the book, in order."""
    require_single(book, "book")
    _, needed = book_bits(Field([]), book)
    return tuple([need for need, bits in needed])


def has_need(book, border, need):
    """Whether a border, let or not, has this need of the book."""
    require_single(book, "book")
    field = Field([require_border(border, "border", book.lands)])
    _, needed = book_bits(field, book)
    for own, bits in needed:
        if is_just(need, own):
            return bits != 0
    raise BadSaying("need")
