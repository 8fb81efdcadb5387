"""Borders widened by a map."""

from borderwords.checks import pairs_of, require_border
from borderwords.errors import Impossible
from borderwords.maps import require_map
from borderwords.papers import Denial
from borderwords.tables import grown, require_possible_map


class Unlet(Denial):
    """Two lands of a border that does not lie in any border that the map lets."""

    def __init__(self, one, other):
        super().__init__("unlet", one, other)
        self.one, self.other = self.parts


def widened(full, border):
    """The border widened by the map: the least one around it that the map lets."""
    require_map(full, "full")
    cell, its = require_border(border, "border", full.lands)
    require_possible_map(full)
    for one, other in pairs_of([land for land in full.lands if land in cell or land in its]):
        if bars_two(full, (cell, its), one, other):
            raise Impossible(Unlet(one, other))
    return grown(full, cell, its)


def bars_two(full, border, one, other):
    """Whether two lands at a border are apart, or meet and both lie over one of its cells."""
    word = full.table[one, other]
    if word != "meets":
        return word == "apart"
    return any([one in cell and other in cell for cell in border])
