"""Whether a value is a right paper of two worlds that say the same, or do not."""

from borderwords.alikes import Alike, Unlike, alike
from borderwords.looks import word_here
from borderwords.papers import is_just, is_own
from borderwords.regions import is_region


def shows_alike(one, other, value):
    """Whether any value is a right Alike or Unlike of the two worlds."""
    told = alike(one, other)
    if isinstance(value, Alike) and is_own(value, "Alike"):
        return isinstance(told, Alike)
    return isinstance(value, Unlike) and is_own(value, "Unlike") and are_unlike(one, other, value)


def are_unlike(one, other, paper):
    """Whether the regions of the paper have just its two words, and these differ."""
    for region in [paper.one, paper.other]:
        if not is_region(region) or not all([name in one.lands for name in region.lands]):
            return False
    here = word_here(one, paper.one, paper.other)
    there = word_here(other, paper.one, paper.other)
    return here != there and is_just(paper.here, here) and is_just(paper.there, there)
