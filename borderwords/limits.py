"""Limits of maps: which maps another one can become if cells vanish."""

from borderwords.checks import WORDS, border_of, pairs_of, require_cell, require_lands, require_word
from borderwords.errors import BadLimit, Misfit, TooMany
from borderwords.fields import book_bits, borders_at, field_of, first_border
from borderwords.maps import require_map
from borderwords.papers import Denial, Paper
from borderwords.tables import grown, require_possible_map
from borderwords.vanish import is_between
from borderwords.widened import bars_two
from borderwords.worlds import World

MOST_LANDS = 5
BECOMES = {
    "apart": ("apart", "meets"),
    "meets": ("meets",),
    "overlaps": ("meets", "overlaps", "same", "rim", "holdsrim"),
    "same": ("same",),
    "deep": ("same", "deep", "rim"),
    "rim": ("same", "rim"),
    "holdsdeep": ("same", "holdsdeep", "holdsrim"),
    "holdsrim": ("same", "holdsrim"),
}


class LimitMaps(Paper):
    """A world that has the one map, and what stays of it, so that what is left has the other map."""

    def __init__(self, world, kept):
        super().__init__("limitmaps", world, kept)
        self.world, self.kept = self.parts


class NotNear(Denial):
    """Two lands whose word cannot become the one that they have in the other map."""

    def __init__(self, one, other):
        super().__init__("notnear", one, other)
        self.one, self.other = self.parts


def limit_words(word):
    """The tuple of the words that a word may become in a limit."""
    require_word(word, "word")
    return BECOMES[word]


def words_before(word):
    """The tuple of the words that may become this one in a limit."""
    return tuple([before for before in WORDS if word in BECOMES[before]])


def cells_between(full, one, other):
    """Cells that lie between two cells, from the one to the other, as the map lets them stand in a row."""
    require_map(full, "full")
    start = require_cell(one, "one")
    end = require_cell(other, "other")
    require_lands(start, full.lands)
    require_lands(end, full.lands)
    require_possible_map(full)
    if not is_let_cell(full, start):
        raise BadLimit("one")
    if not is_let_cell(full, end):
        raise BadLimit("other")
    return tuple(way_between(full, start, end))


def limit(one, other):
    """The LimitMaps if the other map is a limit of the one, otherwise the NotNear."""
    require_two_maps(one, other)
    require_possible_map(one)
    require_possible_map(other)
    require_few_lands(one)
    pair = pair_against(one, other)
    if pair is not None:
        return NotNear(pair[0], pair[1])
    world, kept = limit_world(one, other)
    return LimitMaps(world, kept)


def require_two_maps(one, other):
    """Raise what a function of two maps of the same lands raises of them."""
    require_map(one, "one")
    require_map(other, "other")
    if one.lands != other.lands:
        raise Misfit("lands")


def require_few_lands(full):
    """Raise TooMany for a map of more lands than worlds are told for."""
    if len(full.lands) > MOST_LANDS:
        raise TooMany("lands", MOST_LANDS)


def pair_against(full, near):
    """The first two lands whose word cannot become that of another map, None if there are none."""
    for pair in pairs_of(full.lands):
        if near.table[pair] not in BECOMES[full.table[pair]]:
            return pair
    return None


def is_let_cell(full, cell):
    """Whether a map that is possible lets a cell: no more lands must lie over it, and no two bar one another."""
    if any([bars_two(full, (cell, cell), one, other) for one, other in pairs_of(cell)]):
        return False
    return grown(full, cell, cell) == (cell, cell)


def way_between(full, start, end):
    """The list of cells from a let cell to another one: lands go out one behind another, then others come in."""
    common = [land for land in start if land in end]
    back = way_out(full, end, common)
    return way_out(full, start, common) + back[:-1][::-1]


def way_out(full, cell, left):
    """The list of cells from a let cell to that of the lands that are left: inner lands go out first."""
    way = [cell]
    while len(way[-1]) > len(left):
        here = way[-1]
        going = [land for land in here if land not in left]
        inner = [land for land in going if not any([full.table[its, land] in ("deep", "rim") for its in going])][0]
        way.append(tuple([land for land in here if full.table[land, inner] != "same"]))
    return way


def limit_world(full, near):
    """A world that has a possible map, and what stays of it, so that what is left has a possible limit of the map."""
    field = field_of(full.lands)
    let, needed = book_bits(field, full.as_book())
    few, wanted = book_bits(field, near.as_book())
    rows = {}
    for need, bits in wanted:
        cell, its = first_border(field, few & bits)
        rows[tuple(way_between(full, cell, its))] = True
    had = bits_in(field, list(rows))
    for need, bits in needed:
        if (had & bits) == 0:
            row = row_around(full, borders_at(field, let & bits), borders_at(field, few))
            rows[row] = True
            had = had | bits_in(field, [row])
    return World(list(rows)), [[0, len(row) - 1] if len(row) > 1 else [0] for row in rows]


def bits_in(field, rows):
    """The borders of the field that these rows of cells have."""
    found = {}
    for row in rows:
        for cell in row:
            found[cell, cell] = True
        for at in range(len(row) - 1):
            found[border_of(row[at], row[at + 1])] = True
    return sum([1 << at for at, border in enumerate(field.borders) if border in found])


def row_around(full, wanted, borders):
    """A row that has a wanted border, and of which all cells lie between its first one and its last one.

    The row begins and ends with the cells of one of the borders: one that has a wanted one between its cells.
    """
    for start, end in borders:
        for cell, its in wanted:
            if is_between(cell, start, end) and is_between(its, start, end):
                behind = way_between(full, its, end)
                return tuple(way_between(full, start, cell) + (behind[1:] if cell == its else behind))
    return None
