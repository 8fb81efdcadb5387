"""Whether two books, or a chain of books, are possible together."""

from borderwords.books import Book, require_single
from borderwords.borders import let_borders
from borderwords.checks import is_list
from borderwords.errors import BadBook, Misfit, TooMany
from borderwords.fields import Field, book_bits, first_border, lacks_of, row_of
from borderwords.papers import Denial, Paper
from borderwords.traces import borders_fitting, cell_parts, cell_within, common_lands
from borderwords.worlds import World

MOST_BOOKS = 6


class Together(Paper):
    """A world of all lands that keeps the books."""

    def __init__(self, world):
        super().__init__("together", world)
        self.world = self.parts[0]


class PartedBy(Denial):
    """The place of a book, and a need of it that none of its borders has which fit."""

    def __init__(self, which, need):
        super().__init__("partedby", which, need)
        self.which, self.need = self.parts


def together(one, other):
    """The Together of two books, or the PartedBy."""
    require_single(one, "one")
    require_single(other, "other")
    return told_together([one, other])


def chained(books):
    """The Together of two to six books in a chain, or the PartedBy."""
    require_chain(books)
    return told_together(books)


def require_chain(books):
    """Raise what chained raises of its books."""
    if not is_list(books) or len(books) < 2 or not all([isinstance(book, Book) and book.is_single for book in books]):
        raise BadBook("books")
    lands = sorted({land for book in books for land in book.lands})
    if not all([is_in_a_row(land, books) for land in lands]):
        raise Misfit("lands")
    if len(books) > MOST_BOOKS:
        raise TooMany("books", MOST_BOOKS)
    if len(lands) > World.MOST_LANDS:
        raise TooMany("lands", World.MOST_LANDS)


def is_in_a_row(land, books):
    """Whether the books that have this land stand one behind the other."""
    places = [which for which, book in enumerate(books) if land in book.lands]
    return places[-1] - places[0] + 1 == len(places)


def told_together(books):
    """As chained, of books that surely are a chain."""
    passed = passed_borders(books)
    links = links_of(books, passed)
    rows = {}
    for which, book in enumerate(books):
        field = Field(passed[which])
        _, needed = book_bits(field, book)
        lacks = lacks_of(field.every, needed)
        if len(lacks) > 0:
            return PartedBy(which, lacks[0])
        for need, bits in needed:
            rows[whole_border(first_border(field, bits), which, links)] = True
    return Together(World([row_of(border) for border in rows]))


def passed_borders(books):
    """For each book of a chain the list of its passed borders, in order."""
    passed = [list(let_borders(book)) for book in books]
    for at in range(1, len(books)):
        passed[at] = borders_fitting(passed[at], passed[at - 1], common_lands(books[at], books[at - 1]))
    for at in range(len(books) - 2, -1, -1):
        passed[at] = borders_fitting(passed[at], passed[at + 1], common_lands(books[at], books[at + 1]))
    return passed


def links_of(books, passed):
    """For each two neighbours in a chain their common lands, and the passed borders of the one and of the other.

    The borders stand, either cell ahead, under their parts for the common lands.
    """
    links = []
    for at in range(1, len(books)):
        lands = common_lands(books[at - 1], books[at])
        links.append((lands, by_part(passed[at - 1], lands), by_part(passed[at], lands)))
    return links


def by_part(borders, lands):
    """The first of the borders, told as two cells either one ahead, for each two parts of cells for these lands."""
    parts = cell_parts(borders, lands)
    found = {}
    for cell, its in borders:
        for one, other in ((cell, its), (its, cell)):
            found.setdefault((parts[one], parts[other]), (one, other))
    return found


def whole_border(border, which, links):
    """Two cells of all lands, of which this border of a book, and a passed one of each other book, is the part."""
    whole = border
    for lands, _, behind in links[which:]:
        whole = with_fitting(whole, behind, lands)
    for lands, ahead, _ in links[:which][::-1]:
        whole = with_fitting(whole, ahead, lands)
    return whole


def with_fitting(whole, found, lands):
    """The two cells with those put in that have the same parts for these lands."""
    cell, its = whole
    one, other = found[cell_within(cell, lands), cell_within(its, lands)]
    return both_cells(cell, one), both_cells(its, other)


def both_cells(cell, its):
    """The cell with the lands of both."""
    return tuple(sorted(set(cell + its)))
