"""Sayings that a book of one word makes sure, shown by its borders and its needs."""

from borderwords.books import require_single, words_told
from borderwords.checks import require_lands
from borderwords.errors import BadSaying
from borderwords.fields import book_bits, field_of, first_border, saying_bits, shown_by
from borderwords.papers import Denial, Paper
from borderwords.possible import require_possible
from borderwords.sayings import require_saying
from borderwords.sure import require_room


class Brought(Paper):
    """For each need of the saying a need of the book that brings it."""

    def __init__(self, needs):
        super().__init__("brought", needs)
        self.needs = self.parts[0]


class Breaks(Denial):
    """A border that the book lets and the saying bars."""

    def __init__(self, border):
        super().__init__("breaks", border)
        self.border = self.parts[0]


class Unbrought(Denial):
    """A need of the saying, and for each need of the book a let border that has it and does not show that one."""

    def __init__(self, need, borders):
        super().__init__("unbrought", need, borders)
        self.need, self.borders = self.parts


def brought(book, saying):
    """The Brought of a saying by a possible book of one word, or the Breaks or the Unbrought."""
    require_bringing(book, saying)
    require_possible(book)
    require_room(book)
    field = field_of(book.lands)
    let, needed = book_bits(field, book)
    barred, its = saying_bits(field, saying, len(book))
    if (let & barred) != 0:
        return Breaks(first_border(field, let & barred))
    found = []
    for need, bits in its:
        row = unshown(let, needed, shown_by(field, bits))
        bringing = [own for own, left in row if left == 0]
        if len(bringing) == 0:
            return Unbrought(need, [first_border(field, left) for own, left in row])
        found.append(bringing[0])
    return Brought(found)


def unshown(let, needed, shown):
    """For each need of the book the let borders that have it, but for these that show a need of the saying."""
    return [(own, let & had & ~shown) for own, had in needed]


def require_bringing(book, saying):
    """Raise what brought raises of a book and a saying, each by itself, and of their lands."""
    require_single(book, "book")
    require_saying(saying, "saying")
    if words_told(saying) != 1:
        raise BadSaying("saying")
    require_lands(saying.lands, book.lands)
