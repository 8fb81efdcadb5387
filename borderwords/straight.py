"""Worlds of one row with the words of other worlds."""

from borderwords.maps import map_of
from borderwords.onerow import on_one_row
from borderwords.worlds import require_world


def straightened(world):
    """A world of one row, of the same lands, in which each two of them have the same word."""
    require_world(world, "world")
    # More lands than a book may have are refused by as_book. A possible map has one part: one row is enough for it.
    return on_one_row(map_of(world).as_book()).world
