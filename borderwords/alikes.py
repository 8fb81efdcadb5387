"""Whether two worlds say the same of all regions."""

from borderwords.checks import are_names, first_twice, is_cell, require_lands
from borderwords.errors import BadWorld, Misfit, TooMany
from borderwords.looks import word_here
from borderwords.papers import Denial, Paper
from borderwords.regions import Common, Land, Rest, Sum
from borderwords.worlds import require_world

MOST_LANDS = 4


class Alike(Paper):
    """Two worlds say the same."""

    def __init__(self):
        super().__init__("alike")


class Unlike(Denial):
    """Of two regions one word holds in the first world, another one, or none, in the second."""

    def __init__(self, one, other, here, there):
        super().__init__("unlike", one, other, here, there)
        self.one, self.other, self.here, self.there = self.parts


def alike(one, other):
    """The Alike, or an Unlike, of two worlds."""
    require_world(one, "one")
    require_world(other, "other")
    if one.lands != other.lands:
        raise Misfit("lands")
    if len(one.lands) > MOST_LANDS:
        raise TooMany("lands", MOST_LANDS)
    told = unlike_regions(one, other)
    if told is None:
        return Alike()
    region, its = told
    return Unlike(region, its, word_here(one, region, its), word_here(other, region, its))


def unlike_regions(one, other):
    """Two regions of which the words in two worlds differ, None if there are none."""
    here = [cell for cell in one.cells if len(cell) > 0]
    there = [cell for cell in other.cells if len(cell) > 0]
    for cell in here + there:
        if cell not in here or cell not in there:
            region = region_over(cell, one.lands)
            return region, region
    # Where cells with lands are all of one kind, no border of it with the empty cell bears on a word.
    if len(here) == 1:
        return None
    for border in one.borders + other.borders:
        if border[0] != border[1] and (border not in one.borders or border not in other.borders):
            return regions_at(border, one.lands)
    return None


def regions_at(border, lands):
    """Two regions whose word tells whether a world has this border of two unlike cells."""
    cell, its = border
    if len(cell) == 0:
        return region_over(its, lands), region_of_all(lands)
    return region_over(cell, lands), region_over(its, lands)


def just_over(cell, lands):
    """A region of these lands that lies over this cell, and over no other cell of them."""
    if not is_cell(cell) or len(cell) == 0:
        raise BadWorld("cell")
    if not are_names(lands) or first_twice(lands) is not None:
        raise BadWorld("lands")
    require_lands(cell, lands)
    if len(lands) > MOST_LANDS:
        raise TooMany("lands", MOST_LANDS)
    return region_over(cell, lands)


def sum_of(lands):
    """A region of these lands that lies over each cell that has one of them."""
    if not are_names(lands) or len(lands) == 0 or first_twice(lands) is not None:
        raise BadWorld("lands")
    if len(lands) > MOST_LANDS:
        raise TooMany("lands", MOST_LANDS)
    return region_of_all(lands)


def region_over(cell, lands):
    """As just_over, of a cell and lands that surely are right.

    The lands that the cell has come first. So the region of the first two and that of the others
    are each at most 1 deep, and what is made of these two at most 2.
    """
    told = [(name, True) for name in sorted(cell)] + [(name, False) for name in sorted(lands) if name not in cell]
    region = half_over(told[:2])
    if len(told) <= 2:
        return region
    if told[2][1]:
        return Common(region, half_over(told[2:]))
    return Rest(region, half_over(told[2:]))


def half_over(told):
    """What one or two lands give to the whole: the cells of those had, or of those lacked."""
    one = Land(told[0][0])
    if len(told) == 1:
        return one
    other = Land(told[1][0])
    if told[1][1]:
        return Common(one, other)
    if told[0][1]:
        return Rest(one, other)
    return Sum(one, other)


def region_of_all(lands):
    """As sum_of, of lands that surely are right."""
    names = sorted(lands)
    regions = [Land(name) for name in names]
    while len(regions) > 1:
        regions = [Sum(regions[at], regions[at + 1]) if at + 1 < len(regions) else regions[at]
                   for at in range(0, len(regions), 2)]
    return regions[0]
