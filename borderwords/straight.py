"""Worlds of one row with the words of other worlds."""

from borderwords.errors import TooMany
from borderwords.maps import map_of
from borderwords.onerow import on_one_row
from borderwords.worlds import require_world

MOST_LANDS = 5


def straightened(world):
    """A world of one row, of the same lands, in which each two of them have the same word."""
    require_world(world, "world")
    if len(world.lands) > MOST_LANDS:
        raise TooMany("lands", MOST_LANDS)
    # The book of a possible map has one part, so that one row is enough.
    return on_one_row(map_of(world).as_book()).world
