"""Many borders looked at at once: which of them sayings bar, and which have what sayings need.

Of a list of borders each one is a bit of an integer, the first one the lowest bit, so that an integer
stands for some of the borders. The two sides of a region are the borders over whose first cell it lies,
and those over whose second cell it lies.
"""

from borderwords.checks import WORDS, cell_key, turned_word
from borderwords.regions import Land
from borderwords.sayings import Says


class Field:
    """Some borders, each one a bit."""

    def __init__(self, borders):
        self.borders = tuple(borders)
        self.every = (1 << len(self.borders)) - 1
        self.equal = 0
        self.firsts = {}
        self.seconds = {}
        self.known = {}
        for at, (cell, its) in enumerate(self.borders):
            bit = 1 << at
            self.firsts[cell] = self.firsts.get(cell, 0) + bit
            self.seconds[its] = self.seconds.get(its, 0) + bit
            if cell == its:
                self.equal = self.equal + bit

    def sides(self, region):
        """The two sides of a region."""
        text = str(region)
        if text not in self.known:
            first = sum([bits for cell, bits in self.firsts.items() if region.covers(cell)])
            second = sum([bits for cell, bits in self.seconds.items() if region.covers(cell)])
            self.known[text] = (first, second)
        return self.known[text]


def all_cells(lands):
    """All cells of these ascending lands, in order."""
    cells = [()]
    for land in lands:
        cells = cells + [cell + (land,) for cell in cells]
    return sorted(cells, key=cell_key)


def field_of(lands):
    """The field of all borders of these ascending lands, in order."""
    cells = all_cells(lands)
    return Field([(cells[at], cells[its]) for at in range(len(cells)) for its in range(at, len(cells))])


def at_bits(sides):
    """The borders that a region is at."""
    return sides[0] | sides[1]


def through_bits(sides):
    """The borders that a region is through."""
    return sides[0] & sides[1]


def barred_by(word, one, other):
    """The borders that are barred by this word of one to other, told by their sides."""
    if word in ("holdsdeep", "holdsrim"):
        return barred_by(turned_word(word), other, one)
    if word == "apart":
        return at_bits(one) & at_bits(other)
    if word == "meets":
        return (one[0] & other[0]) | (one[1] & other[1])
    if word == "same":
        return (one[0] ^ other[0]) | (one[1] ^ other[1])
    if word == "deep":
        return at_bits(one) & ~through_bits(other)
    if word == "rim":
        return (one[0] & ~other[0]) | (one[1] & ~other[1])
    return 0


def needed_by(word, one, other, equal):
    """What this word needs, in order: pairs of a kind of need and of the borders that have it."""
    needed = [("one", equal & one[0]), ("other", equal & other[0])]
    if word == "meets":
        needed.append(("touch", at_bits(one) & at_bits(other)))
    if word == "overlaps":
        needed.append(("both", equal & one[0] & other[0]))
    if word in ("overlaps", "holdsdeep", "holdsrim"):
        needed.append(("alone", equal & one[0] & ~other[0]))
    if word in ("overlaps", "deep", "rim"):
        needed.append(("beyond", equal & other[0] & ~one[0]))
    if word == "rim":
        needed.append(("edge", at_bits(one) & ~through_bits(other)))
    if word == "holdsrim":
        needed.append(("edge", at_bits(other) & ~through_bits(one)))
    return needed


def saying_bits(field, saying, number):
    """The borders that a saying of one word bars, and what it needs under this number.

    Needs are pairs of a need and of the borders that have it.
    """
    if not isinstance(saying, Says):
        return at_bits(field.sides(saying.region)), []
    one, other = field.sides(saying.one), field.sides(saying.other)
    word = saying.words[0]
    needed = [((kind, number), bits) for kind, bits in needed_by(word, one, other, field.equal)]
    return barred_by(word, one, other), needed


def book_bits(field, book):
    """The borders that a book of one word lets, and what it needs, in order, as for saying_bits."""
    let = field.every
    needed = [(("land", name), field.equal & field.sides(Land(name))[0]) for name in book.lands]
    for number, saying in enumerate(book.sayings):
        barred, its = saying_bits(field, saying, number)
        let = let & ~barred
        needed = needed + its
    return let, needed


def word_table(field, one, other):
    """For each word of two regions the borders that it bars, and a list of those that have its needs, need by need."""
    sides = field.sides(one), field.sides(other)
    return {word: (barred_by(word, sides[0], sides[1]), wanted_of(needed_by(word, sides[0], sides[1], field.equal)))
            for word in WORDS}


def wanted_of(needed):
    """Of needs, pairs of a need and of the borders that have it, the list of these borders, none of them twice."""
    return list({bits: True for need, bits in needed})


def shown_by(field, bits):
    """The borders that show a need which these borders have: one of their cells, or both, have it."""
    shown = bits
    for cell, its in borders_at(field, bits & field.equal):
        shown = shown | field.firsts[cell] | field.seconds[its]
    return shown


def lacks_of(let, needed):
    """The list of the needs that none of the let borders has."""
    return [need for need, bits in needed if (let & bits) == 0]


def is_possible_with(told, more):
    """Whether a book of one word is possible with further sayings.

    Of each it is told which borders it lets, or bars, and a list of those that have its needs, need by need.
    """
    let, wanted = told
    for barred, its in more:
        let = let & ~barred
        wanted = wanted + its
    for bits in wanted:
        if (let & bits) == 0:
            return False
    return True


def is_left(choices, more):
    """Whether one of these choices of a book is possible with further sayings, told as for is_possible_with."""
    for told in choices:
        if is_possible_with(told, more):
            return True
    return False


def borders_at(field, bits):
    """The tuple of these borders of the field, in order."""
    return tuple([border for at, border in enumerate(field.borders) if bits & (1 << at)])


def first_border(field, bits):
    """The first of these borders of the field, of which there are some."""
    return field.borders[(bits & -bits).bit_length() - 1]


def row_of(border):
    """The row that has this border: its two cells, or the one that they are."""
    cell, its = border
    return [cell] if cell == its else [cell, its]


def rows_with(field, let, needed):
    """Rows of a world of let borders alone that has each need, each of which some let border has."""
    rows = {first_border(field, let & bits): True for need, bits in needed}
    return [row_of(border) for border in rows]
