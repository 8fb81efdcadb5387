"""Parts of borders for some lands, the traces of books on lands, and which borders of two books fit."""

from borderwords.books import require_single
from borderwords.borders import let_borders
from borderwords.checks import border_key, border_of, is_list, require_lands, require_two_cells, require_unlike
from borderwords.errors import BadBook


def part_of(border, lands):
    """The part of a border for these lands."""
    return border_within(require_two_cells(border, "border"), lands)


def trace(book, lands):
    """The tuple of the parts for these lands of all borders that the book lets, each once, in order."""
    require_single(book, "book")
    if not is_list(lands):
        raise BadBook("lands")
    require_lands(lands, book.lands)
    require_unlike(lands)
    found = {border_within(border, lands): True for border in let_borders(book)}
    return tuple(sorted(list(found), key=border_key))


def fitting(one, other):
    """The tuple of the borders that the one book lets and that fit the other one, in order."""
    require_single(one, "one")
    require_single(other, "other")
    return tuple(borders_fitting(let_borders(one), let_borders(other), common_lands(one, other)))


def cell_within(cell, lands):
    """The cell without all other lands."""
    return tuple([name for name in cell if name in lands])


def border_within(border, lands):
    """As part_of, of what surely is a pair of cells."""
    return border_of(cell_within(border[0], lands), cell_within(border[1], lands))


def common_lands(one, other):
    """The lands that two values of lands both have, ascending."""
    return tuple([land for land in one.lands if land in other.lands])


def borders_fitting(borders, its, lands):
    """Those of the borders whose part for these lands is that of one of the others, its."""
    parts = {part: True for part in parts_within(its, lands)}
    return [border for border, part in zip(borders, parts_within(borders, lands)) if part in parts]


def parts_within(borders, lands):
    """The list of the parts of these borders for these lands; of each cell the part is looked for just once."""
    parts = cell_parts(borders, lands)
    return [border_of(parts[cell], parts[its]) for cell, its in borders]


def cell_parts(borders, lands):
    """A dict from each cell of these borders to the cell without all other lands."""
    cells = {cell: True for border in borders for cell in border}
    return {cell: cell_within(cell, lands) for cell in cells}
