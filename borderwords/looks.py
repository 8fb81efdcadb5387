"""Looking at a world: where regions lie in it, and which word holds of two."""

from borderwords.checks import require_lands, turned_word
from borderwords.regions import require_region
from borderwords.worlds import require_world


def lies(world, region):
    """Whether the region lies over some cell of the world."""
    require_world(world, "world")
    require_region(region, "region")
    require_lands(region.lands, world.lands)
    return lies_here(world, region)


def word_of(world, one, other):
    """The word that holds in the world of one region to the other one, None if one lies nowhere."""
    require_world(world, "world")
    require_region(one, "one")
    require_region(other, "other")
    require_lands(one.lands, world.lands)
    require_lands(other.lands, world.lands)
    return word_here(world, one, other)


def lies_here(world, region):
    """As lies, of what surely fits together."""
    return any([region.covers(cell) for cell in world.cells])


def word_here(world, one, other):
    """As word_of, of what surely fits together."""
    pairs = [(one.covers(cell), other.covers(cell)) for cell in world.cells]
    both = (True, True) in pairs
    alone = (True, False) in pairs
    beyond = (False, True) in pairs
    if not both:
        return word_outside(world, one, other) if alone and beyond else None
    if alone and beyond:
        return "overlaps"
    if alone:
        return turned_word(word_inside(world, other, one))
    if beyond:
        return word_inside(world, one, other)
    return "same"


def word_outside(world, one, other):
    """The word of two regions that lie over no cell together."""
    for cell, its in world.borders:
        if (one.covers(cell) or one.covers(its)) and (other.covers(cell) or other.covers(its)):
            return "meets"
    return "apart"


def word_inside(world, one, other):
    """The word of one region to a greater one that lies over all its cells."""
    for cell, its in world.borders:
        if (one.covers(cell) or one.covers(its)) and not (other.covers(cell) and other.covers(its)):
            return "rim"
    return "deep"
