"""Whether a value is a right paper of ways, or of rows."""

from borderwords.books import require_single
from borderwords.check_possible import is_kept_by
from borderwords.fields import book_bits, field_of
from borderwords.onerow import FewestRows, NoRow, OneRow, lot_lacks, part_bits, require_few_parts
from borderwords.papers import is_among, is_own
from borderwords.parts import Shut, Way, ends_of


def shows_way(book, cell, other, value):
    """Whether any value is a right Way or Shut of two cells that the book lets."""
    near, start, end = ends_of(book, cell, other)
    if isinstance(value, Way) and is_own(value, "Way"):
        return are_let(near, value.cells) and is_way(near, value.cells, start, end)
    if not isinstance(value, Shut) or not is_own(value, "Shut") or not are_let(near, value.cells):
        return False
    some = {one: True for one in value.cells}
    if len(some) != len(value.cells) or start not in some or end in some:
        return False
    return all([its in some for one in some for its in near[one]])


def are_let(near, value):
    """Whether any value is a tuple of cells that the book lets."""
    return isinstance(value, tuple) and all([is_among(cell, list(near)) for cell in value])


def is_way(near, cells, start, end):
    """Whether a way leads along these cells from the one cell to the other one."""
    if len(cells) == 0 or cells[0] != start or cells[-1] != end:
        return False
    return all([cells[at] == cells[at + 1] or cells[at + 1] in near[cells[at]] for at in range(len(cells) - 1)])


def shows_row(book, value):
    """Whether any value is a right OneRow or NoRow of the book."""
    require_single(book, "book")
    if isinstance(value, OneRow) and is_own(value, "OneRow"):
        return is_kept_by(book, value.world) and len(value.world.rows) == 1
    if not isinstance(value, NoRow) or not is_own(value, "NoRow"):
        return False
    rows, needed = rows_told(book)
    return are_lacking(value.needs, lot_lacks(rows, needed, 1))


def shows_fewest(book, value):
    """Whether any value is a right FewestRows of the book."""
    require_single(book, "book")
    rows, needed = rows_told(book)
    require_few_parts(rows)
    if not isinstance(value, FewestRows) or not is_own(value, "FewestRows") or not is_kept_by(book, value.world):
        return False
    many = len(value.world.rows)
    # With more rows than parts there is no lot to look at; then some part stands on two rows.
    return many <= len(rows) and are_lacking(value.lacks, lot_lacks(rows, needed, many - 1))


def rows_told(book):
    """The borders of each part of the book, in order, and what the book needs."""
    field = field_of(book.lands)
    let, needed = book_bits(field, book)
    return part_bits(field, let), needed


def are_lacking(value, rows):
    """Whether any value tells for each of these lists of needs one of them."""
    if not isinstance(value, tuple) or len(value) != len(rows):
        return False
    return all([is_among(need, lacks) for need, lacks in zip(value, rows)])
