"""Whether a value is a right paper of two books, or of a chain of books."""

from borderwords.books import require_plain_single, require_single
from borderwords.checks import pairs_of
from borderwords.fields import Field, book_bits, lacks_of
from borderwords.joined import Pair, require_few_common, strongest_table
from borderwords.papers import is_among, is_just, is_own
from borderwords.possible import possible
from borderwords.together import PartedBy, Together, passed_borders, require_chain
from borderwords.traces import common_lands
from borderwords.worlds import World


def shows_together(one, other, value):
    """Whether any value is a right Together or PartedBy of the two books."""
    require_single(one, "one")
    require_single(other, "other")
    return is_told_of([one, other], value)


def shows_chained(books, value):
    """Whether any value is a right Together or PartedBy of the chain of books."""
    require_chain(books)
    return is_told_of(books, value)


def is_told_of(books, value):
    """Whether any value is a right Together or PartedBy of books that surely are a chain."""
    if isinstance(value, Together) and is_own(value, "Together"):
        return are_kept_by(books, value.world)
    if not isinstance(value, PartedBy) or not is_own(value, "PartedBy"):
        return False
    return any([is_just(value.which, which) and is_among(value.need, lacks_passed(book, borders))
                for which, (book, borders) in enumerate(zip(books, passed_borders(books)))])


def are_kept_by(books, value):
    """Whether any value is a world of just all lands that keeps each of the books."""
    lands = sorted({land for book in books for land in book.lands})
    if not isinstance(value, World) or list(value.lands) != lands:
        return False
    # The lands that a book lacks do not bear on its sayings.
    return all([saying.is_kept(value) for book in books for saying in book.sayings])


def lacks_passed(book, borders):
    """The needs of a book that none of these borders has, which it lets."""
    field = Field(borders)
    _, needed = book_bits(field, book)
    return lacks_of(field.every, needed)


def shows_pair(one, other, value):
    """Whether any value is a right Pair of the two books, both of them possible."""
    require_plain_single(one, "one")
    require_plain_single(other, "other")
    lands = common_lands(one, other)
    require_few_common(lands)
    if not isinstance(value, Pair) or not is_own(value, "Pair") or not possible(one) or not possible(other):
        return False
    told, further = strongest_table(one), strongest_table(other)
    return any([is_just(value.parts, (pair[0], pair[1], told[pair], further[pair])) for pair in pairs_of(lands)
                if not any([word in further[pair] for word in told[pair]])])
