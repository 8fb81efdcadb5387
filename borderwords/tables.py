"""What words two lands can have by a third one, and whether a map is possible."""

from borderwords.books import Book
from borderwords.checks import border_of, pairs_of, require_word
from borderwords.errors import Impossible
from borderwords.fields import row_of
from borderwords.maps import require_map
from borderwords.papers import Denial, Paper
from borderwords.possible import Kept, possible
from borderwords.regions import Land
from borderwords.sayings import Says
from borderwords.threes import BY_THIRD, is_three
from borderwords.worlds import World


class MapKept(Paper):
    """A world that has the map."""

    def __init__(self, world):
        super().__init__("mapkept", world)
        self.world = self.parts[0]


class ThreeBarred(Denial):
    """Three lands of the map, whose words no world has."""

    def __init__(self, lands):
        super().__init__("threebarred", lands)
        self.lands = self.parts[0]


def words_by(word, its):
    """The tuple of the words that x can have to z if x has word to y, and y has its to z."""
    require_word(word, "word")
    require_word(its, "its")
    return BY_THIRD[word, its]


def witness(word, its, third):
    """A world in which these are the words of x to y, of y to z, of x to z, None if there is none."""
    require_word(word, "word")
    require_word(its, "its")
    require_word(third, "third")
    x, y, z = Land("x"), Land("y"), Land("z")
    told = possible(Book(["x", "y", "z"], [Says(x, [word], y), Says(y, [its], z), Says(x, [third], z)]))
    return told.world if isinstance(told, Kept) else None


def by_threes(full):
    """The MapKept of some world that has the map, or the ThreeBarred of the first three lands."""
    require_map(full, "full")
    lands = lands_barred(full)
    return MapKept(world_with(full)) if lands is None else ThreeBarred(lands)


def lands_barred(full):
    """The first three lands of the map whose words no world has, None if the map is possible."""
    for one, other, third in threes_of(full.lands):
        if not is_three(full.table[one, other], full.table[other, third], full.table[one, third]):
            return one, other, third
    return None


def require_possible_map(full):
    """Raise Impossible for a map that no world has."""
    lands = lands_barred(full)
    if lands is not None:
        raise Impossible(ThreeBarred(lands))


def threes_of(lands):
    """The list of each three lands, in the order of tuples."""
    return [(one, lands[at], lands[its])
            for place, one in enumerate(lands)
            for at in range(place + 1, len(lands)) for its in range(at + 1, len(lands))]


def world_with(full):
    """A world that has a map which is possible."""
    unlike = {border: True for border in needed_borders(full)}
    return World([row_of(border) for border in unlike])


def needed_borders(full):
    """Let borders of a map that is possible, which have all that it needs.

    Each border that is needed is made as small as can be, then widened until the map lets it: what it
    is needed for it still has, since a border that the map lets and that has it lies around it.
    """
    borders = [grown(full, (land,), ()) for land in full.lands]
    for (one, other), word in zip(pairs_of(full.lands), full.words):
        if word == "meets":
            borders.append(grown(full, (one,), (other,)))
        if word == "overlaps":
            borders.append(grown(full, (one, other), (one, other)))
    return borders


def grown(full, cell, its):
    """The border of two cells widened by a map that is possible, if it lets a border around it."""
    one, other = grown_cells(full, cell, its)
    return border_of(one, other)


def grown_cells(full, cell, its):
    """The two cells of the border that is grown, as they come."""
    within = [land for land in full.lands
              if any([full.table[name, land] == "deep" for name in list(cell) + list(its)])]
    return grown_cell(full, cell, within), grown_cell(full, its, within)


def grown_cell(full, cell, within):
    """The cell with these lands, and with those in which one of its own lies."""
    return tuple([land for land in full.lands
                  if land in within or any([full.table[name, land] in ("same", "rim") for name in cell])])
