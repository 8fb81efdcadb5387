"""Books on one row, and on as few rows as can be."""

from borderwords.books import require_single
from borderwords.checks import WORDS, require_lands
from borderwords.errors import TooMany
from borderwords.fields import book_bits, borders_at, field_of, first_border, lacks_of, saying_bits
from borderwords.lots import lots_with
from borderwords.papers import Denial, Paper
from borderwords.parts import near_cells, parts_by
from borderwords.possible import require_possible
from borderwords.regions import require_region
from borderwords.sayings import Says
from borderwords.worlds import World

MOST_PARTS = 10


class OneRow(Paper):
    """A world of just one row that keeps the book."""

    def __init__(self, world):
        super().__init__("onerow", world)
        self.world = self.parts[0]


class NoRow(Denial):
    """For each part of the book a need that it lacks."""

    def __init__(self, needs):
        super().__init__("norow", needs)
        self.needs = self.parts[0]


class FewestRows(Paper):
    """A world of as few rows as can be that keeps the book, and what each lot of fewer parts lacks."""

    def __init__(self, world, lacks):
        super().__init__("fewestrows", world, lacks)
        self.world, self.lacks = self.parts


def on_one_row(book):
    """The OneRow of the book, or the NoRow."""
    require_single(book, "book")
    field = field_of(book.lands)
    let, needed = book_bits(field, book)
    lacks = []
    for bits in part_bits(field, let):
        lacking = lacks_of(bits, needed)
        if len(lacking) == 0:
            return OneRow(World([row_through(field, bits, needed)]))
        lacks.append(lacking[0])
    return NoRow(lacks)


def fewest_rows(book):
    """The FewestRows of a possible book of at most ten parts."""
    require_single(book, "book")
    require_possible(book)
    field = field_of(book.lands)
    let, needed = book_bits(field, book)
    rows = part_bits(field, let)
    require_few_parts(rows)
    size = 1
    while all([len(lacks) > 0 for lacks in lot_lacks(rows, needed, size)]):
        size = size + 1
    lots = lots_with(len(rows), size)
    enough = [lot for lot, lacks in zip(lots, lot_lacks(rows, needed, size)) if len(lacks) == 0]
    world = World([row_through(field, rows[number], needed) for number in enough[0]])
    return FewestRows(world, [lacks[0] for lacks in lot_lacks(rows, needed, size - 1)])


def row_words(book, one, other):
    """The words that two regions have in worlds of one row that keep the book."""
    require_single(book, "book")
    require_region(one, "one")
    require_region(other, "other")
    require_lands(one.lands, book.lands)
    require_lands(other.lands, book.lands)
    field = field_of(book.lands)
    let, needed = book_bits(field, book)
    words = []
    for word in WORDS:
        barred, its = saying_bits(field, Says(one, [word], other), len(book))
        if any([len(lacks_of(bits, needed + its)) == 0 for bits in part_bits(field, let & ~barred)]):
            words.append(word)
    return tuple(words)


def require_few_parts(rows):
    """Raise TooMany for more parts than are looked at in lots."""
    if len(rows) > MOST_PARTS:
        raise TooMany("parts", MOST_PARTS)


def part_bits(field, let):
    """For each part that these let borders make, in order, its borders."""
    found = []
    for part in parts_by(near_cells(borders_at(field, let))):
        found.append(let & sum([field.firsts[cell] for cell in part]))
    return found


def lot_lacks(rows, needed, size):
    """For each lot of so many parts, told by their borders, in order, the list of the needs that it lacks."""
    return [lacks_of(sum([rows[number] for number in lot]), needed) for lot in lots_with(len(rows), size)]


def row_through(field, bits, needed):
    """A way through all cells of a part, told by its borders, that has each need that the part has."""
    near = near_cells(borders_at(field, bits))
    aside = {cell: [] for cell in near}
    for _, had in needed:
        if (bits & had) != 0:
            cell, its = first_border(field, bits & had)
            if cell != its and its not in aside[cell]:
                aside[cell].append(its)
    return way_through(near, aside, list(near)[0], {})


def way_through(near, aside, cell, seen):
    """A way from a cell to all that hang together with it and are not seen yet, and back.

    From each cell it goes to the cells aside, too, and comes back at once.
    """
    seen[cell] = True
    row = [cell]
    for its in aside[cell]:
        row = row + [its, cell]
    for its in near[cell]:
        if its not in seen:
            row = row + way_through(near, aside, its, seen) + [cell]
    return row
