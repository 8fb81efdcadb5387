"""Ways along borders that a book of one word lets, and the parts of cells that hang together by them."""

from borderwords.books import require_single
from borderwords.borders import let_borders
from borderwords.checks import cell_key, is_within, require_cell, require_lands
from borderwords.errors import BadNumber, BadWorld
from borderwords.fields import Field, book_bits
from borderwords.papers import Denial, Paper


class Way(Paper):
    """Cells, each two neighbours of which make a border that the book lets."""

    def __init__(self, cells):
        super().__init__("way", cells)
        self.cells = self.parts[0]


class Shut(Denial):
    """Cells, one of two among them and the other one not, from which no let border leads to any other cell."""

    def __init__(self, cells):
        super().__init__("shut", cells)
        self.cells = self.parts[0]


def parts(book):
    """The tuple of the parts of the book, tuples of cells."""
    require_single(book, "book")
    return tuple(parts_by(near_cells(let_borders(book))))


def part_number(book, cell):
    """The number of the part in which the cell lies, None if the book does not let it."""
    require_single(book, "book")
    own = require_cell(cell, "cell")
    require_lands(own, book.lands)
    for number, part in enumerate(parts(book)):
        if own in part:
            return number
    return None


def part_needs(book, number):
    """The tuple of the needs that the part of this number has, in their order."""
    found = parts(book)
    if not is_within(number, 0, len(found) - 1):
        raise BadNumber("number")
    field = Field([border for border in let_borders(book) if border[0] in found[number]])
    _, needed = book_bits(field, book)
    return tuple([need for need, bits in needed if bits != 0])


def way(book, cell, other):
    """A Way of fewest cells from the one cell to the other one, or the Shut of the part of the first one."""
    near, start, end = ends_of(book, cell, other)
    ahead = steps_from(near, start)
    if end not in ahead:
        return Shut(sorted(list(ahead), key=cell_key))
    row = [end]
    while row[-1] != start:
        row.append(ahead[row[-1]])
    return Way(row[::-1])


def ends_of(book, cell, other):
    """The neighbours by the book, as near_cells gives them, and the two cells; what way raises of its arguments."""
    require_single(book, "book")
    start = require_cell(cell, "cell")
    end = require_cell(other, "other")
    require_lands(start, book.lands)
    require_lands(end, book.lands)
    near = near_cells(let_borders(book))
    if start not in near:
        raise BadWorld("cell")
    if end not in near:
        raise BadWorld("other")
    return near, start, end


def near_cells(borders):
    """For each cell of these let borders, in order, the list of the other cells with which it has such a border."""
    near = {cell: [] for cell, its in borders if cell == its}
    for cell, its in borders:
        if cell != its:
            near[cell].append(its)
            near[its].append(cell)
    return near


def steps_from(near, start):
    """For each cell to which a way leads from this one the cell ahead of it on a shortest way; None for this one."""
    ahead = {start: None}
    row = [start]
    at = 0
    while at < len(row):
        for its in near[row[at]]:
            if its not in ahead:
                ahead[its] = row[at]
                row.append(its)
        at = at + 1
    return ahead


def parts_by(near):
    """The list of the parts that neighbours make, in order, each a tuple of its cells in order."""
    found = []
    seen = {}
    for cell in near:
        if cell not in seen:
            part = sorted(list(steps_from(near, cell)), key=cell_key)
            found.append(tuple(part))
            for one in part:
                seen[one] = True
    return found
