"""Whether a value is a right paper of a limit, of worlds or of maps."""

from borderwords.limits import (
    BECOMES, LimitMaps, NotNear, require_few_lands, require_two_maps)
from borderwords.maps import map_of
from borderwords.papers import is_just, is_own
from borderwords.vanish import Limit, NoLimitRow, are_between, is_kept_of, left_of, lots_of_row, require_two_worlds
from borderwords.worlds import World


def shows_limit_of_world(world, other, value):
    """Whether any value is a right Limit or NoLimitRow of the two worlds."""
    require_two_worlds(world, other)
    if isinstance(value, Limit) and is_own(value, "Limit"):
        return are_staying(world, value.kept) and left_of(world, value.kept) == other
    if not isinstance(value, NoLimitRow) or not is_own(value, "NoLimitRow"):
        return False
    return any([is_just(value.row, row) and is_against_row(cells, other.rows[row], value.lots)
                for row, cells in enumerate(world.rows)])


def are_staying(world, value):
    """Whether any value tells cells of the world that may stay alone."""
    if not is_kept_of(world, value):
        return False
    return all([are_between(cells, stay[at], stay[at + 1])
                for cells, stay in zip(world.rows, value) for at in range(len(stay) - 1)])


def is_against_row(cells, others, value):
    """Whether any value is the lots of a row that has no such limit."""
    lots, _ = lots_of_row(cells, others)
    return len(cells) - 1 not in lots[-1] and is_just(value, tuple(lots))


def shows_limit(one, other, value):
    """Whether any value is a right LimitMaps or NotNear of the two maps, which need not be possible."""
    require_two_maps(one, other)
    require_few_lands(one)
    if isinstance(value, NotNear) and is_own(value, "NotNear"):
        return are_not_near(one, other, value.one, value.other)
    if not isinstance(value, LimitMaps) or not is_own(value, "LimitMaps"):
        return False
    if not isinstance(value.world, World) or not are_staying(value.world, value.kept):
        return False
    return map_of(value.world) == one and map_of(left_of(value.world, value.kept)) == other


def are_not_near(full, near, one, other):
    """Whether any two values are unlike lands whose word in one map cannot become that in the other one."""
    if not all([isinstance(land, str) and land in full.lands for land in (one, other)]) or one == other:
        return False
    return near.table[one, other] not in BECOMES[full.table[one, other]]
