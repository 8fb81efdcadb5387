"""Whether a value is a right paper of a map: of one that is possible, or not, or of a border that it does not let."""

from borderwords.checks import require_border
from borderwords.maps import map_of, require_map
from borderwords.papers import is_own
from borderwords.tables import MapKept, ThreeBarred
from borderwords.threes import is_three
from borderwords.widened import Unlet, bars_two
from borderwords.worlds import World


def shows_by_threes(full, value):
    """Whether any value is a right MapKept or ThreeBarred of the map."""
    require_map(full, "full")
    if isinstance(value, MapKept) and is_own(value, "MapKept"):
        return isinstance(value.world, World) and map_of(value.world) == full
    return isinstance(value, ThreeBarred) and is_own(value, "ThreeBarred") and are_barred_lands(full, value.lands)


def are_barred_lands(full, value):
    """Whether any value is three unlike lands of the map whose words no world has."""
    if not isinstance(value, tuple) or len(value) != 3 or not all([is_land_of(full, land) for land in value]):
        return False
    # With a land told twice there is such a world: so the three are unlike if there is none.
    one, other, third = value
    return not is_three(full.table[one, other], full.table[other, third], full.table[one, third])


def is_land_of(full, value):
    """Whether any value is a land of the map."""
    return isinstance(value, str) and value in full.lands


def shows_unlet(full, border, value):
    """Whether any value is an Unlet of two lands of the border that the map does not let be there together."""
    require_map(full, "full")
    cell, its = require_border(border, "border", full.lands)
    if not isinstance(value, Unlet) or not is_own(value, "Unlet"):
        return False
    here = [land for land in full.lands if land in cell or land in its]
    if not all([isinstance(land, str) and land in here for land in (value.one, value.other)]):
        return False
    return bars_two(full, (cell, its), value.one, value.other)
