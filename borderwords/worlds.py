"""Worlds: rows of cells side by side."""

from borderwords.checks import (
    are_name_pairs, are_names, border_key, border_of, cell_key, cell_text, is_cell, is_list,
    new_names, require_land, require_unlike, text_items)
from borderwords.errors import BadText, BadWorld, TooMany


class World:
    """Rows of cells; a cell is the ascending tuple of the lands that lie over it."""

    MOST_LANDS = 10
    MOST_CELLS = 3000

    def __init__(self, rows):
        require_rows(rows)
        self.rows = tuple([tuple([tuple(sorted(cell)) for cell in row]) for row in rows])
        self.cells = kinds_of(self.rows)
        self.lands = tuple(sorted({name for cell in self.cells for name in cell}))
        if len(self.lands) == 0:
            raise BadWorld("lands")
        if len(self.lands) > World.MOST_LANDS:
            raise TooMany("lands", World.MOST_LANDS)
        if len(self) > World.MOST_CELLS:
            raise TooMany("cells", World.MOST_CELLS)
        self.borders = borders_of(self.rows)

    def __len__(self):
        return len([cell for row in self.rows for cell in row])

    def __eq__(self, other):
        return isinstance(other, World) and self.rows == other.rows

    def __str__(self):
        return " / ".join([" ".join([cell_text(cell) for cell in row]) for row in self.rows])

    def beside(self, other):
        """The rows of this world, then those of the other one."""
        require_world(other, "other")
        return World(self.rows + other.rows)

    def mirrored(self):
        """The cells of each row from the last one to the first one."""
        return World([row[::-1] for row in self.rows])

    def renamed(self, pairs):
        """The world with new names for some lands: pairs of a land and its new name."""
        if not are_name_pairs(pairs):
            raise BadWorld("pairs")
        names = new_names(self.lands, pairs)
        return World([[[names[land] for land in cell] for cell in row] for row in self.rows])

    def without(self, land):
        """The world with this land left out of each cell; no world is left of the only land."""
        require_land(land, self.lands)
        return World([[[name for name in cell if name != land] for cell in row] for row in self.rows])

    @staticmethod
    def read(text):
        """The world whose text this is."""
        return World(rows_from(text_items(text), 0))


def require_world(value, part):
    """Raise BadWorld for what is no world."""
    if not isinstance(value, World):
        raise BadWorld(part)


def is_row(value):
    """Whether any value is a list of one or more lists of names."""
    return is_list(value) and len(value) > 0 and all([are_names(cell) for cell in value])


def require_rows(rows):
    """Raise BadWorld for what are no rows, Twice for a name that stands in its cell already."""
    if not is_list(rows) or len(rows) == 0 or not all([is_row(row) for row in rows]):
        raise BadWorld("rows")
    for row in rows:
        for cell in row:
            require_unlike(cell)


def kinds_of(rows):
    """The tuple of the cells of these rows, each once, in order."""
    return tuple(sorted(sorted({cell for row in rows for cell in row}), key=cell_key))


def borders_of(rows):
    """The tuple of the borders that these rows have, each once, in order."""
    found = {(cell, cell): True for row in rows for cell in row}
    for row in rows:
        for at in range(len(row) - 1):
            found[border_of(row[at], row[at + 1])] = True
    return tuple(sorted(list(found), key=border_key))


def rows_from(items, start):
    """The rows that the items of a text tell, from this one on to the end."""
    rows = [[]]
    lands = {}
    many = 0
    for at, item in enumerate(items):
        if at < start:
            continue
        # No item may stand behind which no text of a world goes on: so none but a last cell
        # that brings a land comes as the last cell of the most.
        if item == "/":
            if len(rows[-1]) == 0 or many == World.MOST_CELLS:
                raise BadText(0, at)
            rows.append([])
            continue
        cell = cell_from(item, at)
        many = many + 1
        for name in cell:
            lands[name] = True
        if len(lands) > World.MOST_LANDS or many > World.MOST_CELLS:
            raise BadText(0, at)
        if many == World.MOST_CELLS and len(lands) == 0:
            raise BadText(0, at)
        rows[-1].append(cell)
    if len(rows[-1]) == 0:
        raise BadText(0, len(items))
    if len(lands) == 0:
        raise BadText(0, len(items) - 1)
    return rows


def cell_from(item, at):
    """The cell that the item at this place tells."""
    cell = [] if item == "-" else item.split("+")
    if not is_cell(cell):
        raise BadText(0, at)
    return cell
