"""What plain books of one word say of each two lands, and of maps of some lands."""

from borderwords.books import require_plain_single
from borderwords.checks import WORDS, pairs_of
from borderwords.errors import Misfit
from borderwords.fields import book_bits, field_of, is_possible_with, wanted_of, word_table
from borderwords.maps import require_map
from borderwords.possible import require_possible
from borderwords.regions import Land


def strongest(book):
    """For each two lands of the book, in order, the words that they have in worlds that keep it."""
    require_plain_single(book, "book")
    require_possible(book)
    field = field_of(book.lands)
    let, needed = book_bits(field, book)
    told = (let, wanted_of(needed))
    return tuple([(one, other, words_left(field, told, one, other)) for one, other in pairs_of(book.lands)])


def words_left(field, told, one, other):
    """The tuple of the words of two lands with which a book, told as for is_possible_with, is possible."""
    table = word_table(field, Land(one), Land(other))
    return tuple([word for word in WORDS if is_possible_with(told, [table[word]])])


def fits_within(full, book):
    """Whether some world keeps the book in which the lands of the map have its words."""
    require_map(full, "full")
    require_plain_single(book, "book")
    if not all([land in book.lands for land in full.lands]):
        raise Misfit("lands")
    field = field_of(book.lands)
    let, needed = book_bits(field, book)
    more = [word_table(field, Land(one), Land(other))[full.table[one, other]] for one, other in pairs_of(full.lands)]
    return is_possible_with((let, wanted_of(needed)), more)
