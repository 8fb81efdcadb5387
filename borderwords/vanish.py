"""Cells that vanish: what is left of a world, and whether one world is a limit of another one."""

from borderwords.checks import is_list, is_within
from borderwords.errors import BadLimit, BadNumber, Misfit, TooMany
from borderwords.papers import Denial, Paper
from borderwords.worlds import World, require_world

MOST_CELLS = 400


class Limit(Paper):
    """For each row of the world the indexes of the cells that stay."""

    def __init__(self, kept):
        super().__init__("limit", kept)
        self.kept = self.parts[0]


class NoLimitRow(Denial):
    """A row that has no such limit, and its lots."""

    def __init__(self, row, lots):
        super().__init__("nolimitrow", row, lots)
        self.row, self.lots = self.parts


def vanished(world, row, start, end):
    """The world left if these cells of a row vanish."""
    require_world(world, "world")
    if not is_within(row, 0, len(world.rows) - 1):
        raise BadNumber("row")
    cells = world.rows[row]
    if not is_within(start, 0, len(cells)):
        raise BadNumber("start")
    if not is_within(end, 0, len(cells)):
        raise BadNumber("end")
    if not 0 < start < end < len(cells) or not are_between(cells, start - 1, end):
        raise BadLimit("cells")
    return World(world.rows[:row] + (cells[:start] + cells[end:],) + world.rows[row + 1:])


def left_of(world, kept):
    """The world of the cells that stay."""
    require_world(world, "world")
    if not is_kept_of(world, kept):
        raise BadLimit("kept")
    for cells, stay in zip(world.rows, kept):
        if not all([are_between(cells, stay[at], stay[at + 1]) for at in range(len(stay) - 1)]):
            raise BadLimit("cells")
    return World([[cells[at] for at in stay] for cells, stay in zip(world.rows, kept)])


def limit_of_world(world, other):
    """The Limit if the other world is a limit of the world, otherwise the NoLimitRow."""
    require_two_worlds(world, other)
    kept = []
    for row, cells in enumerate(world.rows):
        lots, near = lots_of_row(cells, other.rows[row])
        if len(cells) - 1 not in lots[-1]:
            return NoLimitRow(row, lots)
        kept.append(stay_in(lots, near, len(cells) - 1))
    return Limit(kept)


def require_two_worlds(world, other):
    """Raise what limit_of_world raises."""
    require_world(world, "world")
    require_world(other, "other")
    if world.lands != other.lands:
        raise Misfit("lands")
    if len(world.rows) != len(other.rows):
        raise Misfit("rows")
    if max(len(world), len(other)) > MOST_CELLS:
        raise TooMany("cells", MOST_CELLS)


def is_between(cell, one, other):
    """Whether a cell lies between two cells."""
    return all([land in cell for land in one if land in other]) and all(
        [land in one or land in other for land in cell])


def are_between(cells, start, end):
    """Whether all cells of a row between these two places lie between the cells there."""
    return all([is_between(cells[at], cells[start], cells[end]) for at in range(start + 1, end)])


def is_kept_of(world, value):
    """Whether any value tells for each row of the world which cells stay, the first and the last one among them."""
    if not is_list(value) or len(value) != len(world.rows):
        return False
    return all([is_stay(cells, stay) for cells, stay in zip(world.rows, value)])


def is_stay(cells, value):
    """Whether any value is ascending indexes of a row, the first one 0, the last one that of its last cell."""
    if not is_list(value) or len(value) == 0 or not all([is_within(at, 0, len(cells) - 1) for at in value]):
        return False
    if value[0] != 0 or value[-1] != len(cells) - 1:
        return False
    return all([value[at] < value[at + 1] for at in range(len(value) - 1)])


def lots_of_row(cells, others):
    """The lots of a row and of the row of the other world in its place, and which places are near ones."""
    near = near_places(cells)
    lots = [(0,) if cells[0] == others[0] else ()]
    for its in others[1:]:
        ahead = sum([1 << place for place in lots[-1]])
        lots.append(tuple([at for at, cell in enumerate(cells) if cell == its and (near[at] & ahead) != 0]))
    return lots, near


def near_places(cells):
    """For each place of a row the places ahead of it, as bits, from which all cells on the way to it may vanish."""
    masks = land_bits(cells)
    near = [0 for _ in cells]
    for start, first in enumerate(masks):
        # All lands of the cells on the way, and those that each of them has.
        some, every = 0, -1
        for end in range(start + 1, len(masks)):
            last = masks[end]
            if (some & ~(first | last)) == 0 and (first & last & ~every) == 0:
                near[end] = near[end] | (1 << start)
            some, every = some | last, every & last
    return near


def land_bits(cells):
    """For each cell its lands as bits."""
    bits = {}
    for cell in cells:
        for land in cell:
            bits.setdefault(land, 1 << len(bits))
    return [sum([bits[land] for land in cell]) for cell in cells]


def stay_in(lots, near, last):
    """The places that stay in a row whose last lot has the last place: one of each lot, each near the next one."""
    stay = [last]
    for lot in lots[:-1][::-1]:
        stay.append([place for place in lot if near[stay[-1]] & (1 << place)][0])
    return stay[::-1]
