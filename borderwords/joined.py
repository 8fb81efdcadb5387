"""Two maps joined, and words across two maps or two books."""

from borderwords.books import require_plain_single, require_single
from borderwords.checks import WORDS, border_of, pairs_of, require_land, require_lands
from borderwords.closing import strongest
from borderwords.errors import Impossible, Misfit, TooMany
from borderwords.fields import Field, book_bits, field_of, is_possible_with, row_of, wanted_of, word_table
from borderwords.maps import require_map
from borderwords.papers import Denial
from borderwords.regions import Land, require_region
from borderwords.tables import grown_cells, needed_borders, require_possible_map, words_by
from borderwords.together import both_cells, passed_borders, together
from borderwords.traces import cell_parts, cell_within, common_lands
from borderwords.worlds import World

MOST_COMMON = 3


class Pair(Denial):
    """Two lands, and the words that they have by the strongest sayings of two books, which share none."""

    def __init__(self, one, other, words, its):
        super().__init__("pair", one, other, words, its)
        self.one, self.other, self.words, self.its = self.parts


def joined(one, other):
    """A world of the lands of both maps that has both."""
    require_map(one, "one")
    require_map(other, "other")
    require_fitting(one, other)
    borders = [put_into(other, border) for border in needed_borders(one)]
    borders = borders + [put_into(one, border) for border in needed_borders(other)]
    unlike = {border: True for border in borders}
    # More lands in all than a world may have are refused by World.
    return World([row_of(border) for border in unlike])


def words_beside(one, other, land, its):
    """The words that a land of the one map can have to a land of the other one in worlds that have both."""
    require_map(one, "one")
    require_map(other, "other")
    require_land(land, one.lands)
    require_land(its, other.lands)
    require_fitting(one, other)
    # A common land is same to itself: so it lets just the word that it has.
    rows = [words_by(one.table[land, by], other.table[by, its]) for by in common_lands(one, other)]
    return tuple([word for word in WORDS if all([word in row for row in rows])])


def words_across(one, other, region, its):
    """The words that a region of the one book has to a region of the other one in worlds that keep both."""
    require_single(one, "one")
    require_single(other, "other")
    require_region(region, "region")
    require_region(its, "its")
    require_lands(region.lands, one.lands)
    require_lands(its.lands, other.lands)
    told = together(one, other)
    if not told:
        raise Impossible(told)
    field = field_of(("x", "y"))
    seen = seen_across(field, [(one, region, "x"), (other, its, "y")])
    table = word_table(field, Land("x"), Land("y"))
    return tuple([word for word in WORDS if is_possible_with(seen, [table[word]])])


def parting_pair(one, other):
    """The Pair of the first two common lands for which the two books share no word, None if there are none."""
    require_plain_single(one, "one")
    require_plain_single(other, "other")
    told, further = strongest_table(one), strongest_table(other)
    lands = common_lands(one, other)
    require_few_common(lands)
    for pair in pairs_of(lands):
        if not any([word in further[pair] for word in told[pair]]):
            return Pair(pair[0], pair[1], told[pair], further[pair])
    return None


def require_few_common(lands):
    """Raise TooMany for more common lands than may be asked."""
    if len(lands) > MOST_COMMON:
        raise TooMany("lands", MOST_COMMON)


def strongest_table(book):
    """A dict from each two lands of a possible book, in order, to the words that they have."""
    return {(one, other): words for one, other, words in strongest(book)}


def require_fitting(one, other):
    """Raise Misfit for maps with unlike words of common lands, Impossible for a map that is not possible."""
    for pair in pairs_of(common_lands(one, other)):
        if one.table[pair] != other.table[pair]:
            raise Misfit("words")
    for full in [one, other]:
        require_possible_map(full)


def put_into(full, border):
    """A border that another map lets with those lands of this one put in, so that this one lets it, too.

    What is put in is no common land: the other map, which has the same words for these, would not let the
    border without it.
    """
    cell, its = border
    more, further = grown_cells(full, cell_within(cell, full.lands), cell_within(its, full.lands))
    return border_of(both_cells(cell, more), both_cells(its, further))


def seen_across(field, sides):
    """What two books, possible together, let and need, told as for is_possible_with of two lands x and y alone.

    Each side is a book, a region of it, and the land that stands for the region. A border of all lands that
    both books let is told by what of the two regions lies over its cells: more does not bear on their word.
    """
    books = [book for book, region, name in sides]
    lands = common_lands(books[0], books[1])
    passed = passed_borders(books)
    views = [views_of(passed[at], sides[at], lands) for at in range(2)]
    tables = [crossings(views[at], faces(views[1 - at])) for at in range(2)]
    needed = []
    for at in range(2):
        _, its = book_bits(Field(passed[at]), books[at])
        needed = needed + [bits_of_some(field, tables[at], had) for had in wanted_of(its)]
    # Each border of all lands is seen from either side.
    return bits_of_some(field, tables[0], (1 << len(passed[0])) - 1), needed


def views_of(borders, side, lands):
    """For each border its part for these lands, either cell ahead, with the two cells of the region's land alone."""
    _, region, name = side
    parts = cell_parts(borders, lands)
    face = {cell: face_of(region, name, cell) for cell in parts}
    return [[((parts[one], parts[other]), (face[one], face[other])) for one, other in ((cell, its), (its, cell))]
            for cell, its in borders]


def faces(views):
    """For each part that borders have, told by their views, a dict of the cells of the region's land alone there."""
    found = {}
    for view in views:
        for part, face in view:
            found.setdefault(part, {})[face] = True
    return found


def face_of(region, name, cell):
    """The cell of this land alone if the region lies over the cell, otherwise the empty one."""
    return (name,) if region.covers(cell) else ()


def crossings(views, others):
    """For each border of two lands the borders, as bits, that make it with one of the other book with the same part."""
    found = {}
    for at, view in enumerate(views):
        for part, face in view:
            for its in others.get(part, {}):
                found[face, its] = found.get((face, its), 0) | (1 << at)
    table = {}
    for (face, its), bits in found.items():
        border = border_of(both_cells(face[0], its[0]), both_cells(face[1], its[1]))
        table[border] = table.get(border, 0) | bits
    return table


def bits_of_some(field, table, some):
    """The bits of the borders of two lands that some of these borders make."""
    return sum([1 << at for at, border in enumerate(field.borders) if table.get(border, 0) & some])
