"""Lengths of worlds, sizes of regions, and sayings of sizes."""

from borderwords.books import require_single
from borderwords.checks import (
    is_integer_text, is_list, is_within, item_at, require_cell, require_lands, text_items)
from borderwords.errors import BadSize, BadText, TooMany, Twice
from borderwords.regions import is_region, region_from, require_region
from borderwords.worlds import require_world

MOST_COUNTS = 4
MOST_COUNT = 9
MOST_LANDS = 4
MOST_SIZES = 4


class SizeSaying:
    """The class above all sayings of sizes."""

    def worth(self, cell):
        """The sum of the counts of those regions that lie over the cell."""
        raise NotImplementedError("a size saying is an AtLeast or an Above")

    def contrary(self):
        """The saying that is kept where this one is not."""
        raise NotImplementedError("a size saying is an AtLeast or an Above")

    @staticmethod
    def read(text):
        """The size saying whose text this is."""
        items = text_items(text)
        if items[0] == "atleast":
            return AtLeast(counts_from(items, 1))
        if items[0] == "above":
            return Above(counts_from(items, 1))
        raise BadText(0, 0)


class AtLeast(SizeSaying):
    """Sizes, each times its count, added up, are 0 or more."""

    def __init__(self, counts):
        require_counts(counts)
        self.counts = tuple([(region, count) for region, count in counts])

    def worth(self, cell):
        """The sum of the counts of those regions that lie over the cell."""
        return worth_of(self.counts, require_cell(cell, "cell"))

    def contrary(self):
        """The Above that is kept where this one is not."""
        return Above(turned_counts(self.counts))

    def __eq__(self, other):
        return isinstance(other, AtLeast) and self.counts == other.counts

    def __str__(self):
        return f"atleast {counts_text(self.counts)}"


class Above(SizeSaying):
    """Sizes, each times its count, added up, are more than 0."""

    def __init__(self, counts):
        require_counts(counts)
        self.counts = tuple([(region, count) for region, count in counts])

    def worth(self, cell):
        """The sum of the counts of those regions that lie over the cell."""
        return worth_of(self.counts, require_cell(cell, "cell"))

    def contrary(self):
        """The AtLeast that is kept where this one is not."""
        return AtLeast(turned_counts(self.counts))

    def __eq__(self, other):
        return isinstance(other, Above) and self.counts == other.counts

    def __str__(self):
        return f"above {counts_text(self.counts)}"


class SizedBook:
    """A book of one word, and size sayings, none to four."""

    def __init__(self, book, sizes=()):
        require_single(book, "book")
        if not is_list(sizes) or not all([is_size_saying(saying) for saying in sizes]):
            raise BadSize("sizes")
        for saying in sizes:
            for region, _ in saying.counts:
                require_lands(region.lands, book.lands)
        if len(book.lands) > MOST_LANDS:
            raise TooMany("lands", MOST_LANDS)
        if len(sizes) > MOST_SIZES:
            raise TooMany("sizes", MOST_SIZES)
        self.book = book
        self.sizes = tuple(sizes)

    def keeps(self, world, lengths):
        """Whether a world and lengths of it keep the book and all its size sayings."""
        require_world(world, "world")
        require_lengths(world, lengths)
        # A world of other lands is refused by first_broken.
        if self.book.first_broken(world) is not None:
            return False
        return all([is_kept_with(saying, world, lengths) for saying in self.sizes])

    def __eq__(self, other):
        return isinstance(other, SizedBook) and self.book == other.book and self.sizes == other.sizes


def is_size_saying(value):
    """Whether any value is a size saying."""
    return isinstance(value, (AtLeast, Above))


def require_size_saying(value, part):
    """Raise BadSize for what is no size saying."""
    if not is_size_saying(value):
        raise BadSize(part)


def require_sized(value, part):
    """Raise BadSize for what is no sized book."""
    if not isinstance(value, SizedBook):
        raise BadSize(part)


def size_of(world, lengths, region):
    """The size of the region: the sum of the lengths of all cells that it lies over."""
    require_world(world, "world")
    require_lengths(world, lengths)
    require_region(region, "region")
    require_lands(region.lands, world.lands)
    return size_here(world, lengths, region)


def size_here(world, lengths, region):
    """As size_of, of what surely fits together."""
    return sum([length for row, its in zip(world.rows, lengths) for cell, length in zip(row, its)
                if region.covers(cell)])


def is_kept_with(saying, world, lengths):
    """Whether lengths of a world that has its lands keep the size saying."""
    total = sum([count * size_here(world, lengths, region) for region, count in saying.counts])
    return total >= 0 if isinstance(saying, AtLeast) else total > 0


def is_counted(value):
    """Whether any value is a pair of a region and of a count."""
    return is_list(value) and len(value) == 2 and is_region(value[0]) and is_within(value[1], -MOST_COUNT, MOST_COUNT)


def require_counts(value):
    """Raise BadSize for what are no counts of a size saying, Twice for a region that stands there already."""
    if not is_list(value) or not 1 <= len(value) <= MOST_COUNTS or not all([is_counted(pair) for pair in value]):
        raise BadSize("counts")
    for at, (region, _) in enumerate(value):
        if stands_in(region, value[:at]):
            raise Twice(region)


def stands_in(region, counts):
    """Whether the region stands in these pairs of a region and a count."""
    return any([region == told for told, count in counts])


def are_lengths(world, value):
    """Whether any value is lengths of the world."""
    if not is_list(value) or len(value) != len(world.rows):
        return False
    for row, its in zip(world.rows, value):
        if not is_list(its) or len(its) != len(row) or not all([is_within(length, 1, None) for length in its]):
            return False
    return True


def require_lengths(world, value):
    """Raise BadSize for what are no lengths of the world."""
    if not are_lengths(world, value):
        raise BadSize("lengths")


def worth_of(counts, cell):
    """The sum of the counts of those regions that lie over the cell."""
    return sum([count for region, count in counts if region.covers(cell)])


def turned_counts(counts):
    """The pairs with each count times -1."""
    return [(region, -count) for region, count in counts]


def counts_text(counts):
    """The text of the pairs, the count of each ahead of its region."""
    return " ".join([f"{count} {region}" for region, count in counts])


def counts_from(items, at):
    """The pairs of a region and a count that stand from this item on to the end of a text."""
    counts = []
    place = at
    while place < len(items) or len(counts) == 0:
        item = item_at(items, place)
        if len(counts) == MOST_COUNTS or not is_integer_text(item) or abs(int(item)) > MOST_COUNT:
            raise BadText(0, place)
        region, place = region_from(items, place + 1)
        if stands_in(region, counts):
            raise BadText(0, place - 1)
        counts.append((region, int(item)))
    return counts
