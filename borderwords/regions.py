"""Regions: lands, and what is made of two regions."""

from borderwords.checks import is_name, item_at, require_cell, require_end, text_items
from borderwords.errors import BadRegion, BadText


class Region:
    """The class above all regions; it is not called itself."""

    MOST_DEPTH = 2

    def covers(self, cell):
        """As is_over, of what surely is a cell."""
        raise NotImplementedError("a region is of one of the classes below")

    def is_over(self, cell):
        """Whether it lies over this cell."""
        return self.covers(require_cell(cell, "cell"))

    @staticmethod
    def read(text):
        """The region whose text this is."""
        items = text_items(text)
        region, behind = region_from(items, 0)
        require_end(items, behind)
        return region


class Land(Region):
    """The region that is one land."""

    def __init__(self, name):
        if not is_name(name):
            raise BadRegion("name")
        self.name = name
        self.lands = (name,)
        self.depth = 0

    def covers(self, cell):
        """As is_over, of what surely is a cell."""
        return self.name in cell

    def is_over(self, cell):
        """Whether it lies over this cell."""
        return self.covers(require_cell(cell, "cell"))

    def with_land(self, old, new):
        """The same region with one land put in for another one."""
        return Land(new if self.name == old else self.name)

    def __eq__(self, other):
        return isinstance(other, Land) and self.name == other.name

    def __str__(self):
        return str(self.name)


class Made(Region):
    """The class above the regions that are made of two."""

    def __init__(self, one, other):
        require_region(one, "one")
        require_region(other, "other")
        depth = 1 + max(one.depth, other.depth)
        if depth > Region.MOST_DEPTH:
            raise BadRegion("depth")
        self.one = one
        self.other = other
        self.lands = lands_of([one, other])
        self.depth = depth


class Sum(Made):
    """The region over the cells that one of the two lies over at least."""

    def covers(self, cell):
        """As is_over, of what surely is a cell."""
        return self.one.covers(cell) or self.other.covers(cell)

    def is_over(self, cell):
        """Whether it lies over this cell."""
        return self.covers(require_cell(cell, "cell"))

    def with_land(self, old, new):
        """The same region with one land put in for another one."""
        return Sum(self.one.with_land(old, new), self.other.with_land(old, new))

    def __eq__(self, other):
        return isinstance(other, Sum) and self.one == other.one and self.other == other.other

    def __str__(self):
        return f"+ {self.one} {self.other}"


class Common(Made):
    """The region over the cells that both lie over."""

    def covers(self, cell):
        """As is_over, of what surely is a cell."""
        return self.one.covers(cell) and self.other.covers(cell)

    def is_over(self, cell):
        """Whether it lies over this cell."""
        return self.covers(require_cell(cell, "cell"))

    def with_land(self, old, new):
        """The same region with one land put in for another one."""
        return Common(self.one.with_land(old, new), self.other.with_land(old, new))

    def __eq__(self, other):
        return isinstance(other, Common) and self.one == other.one and self.other == other.other

    def __str__(self):
        return f"* {self.one} {self.other}"


class Rest(Made):
    """The region over the cells that the one lies over and the other does not."""

    def covers(self, cell):
        """As is_over, of what surely is a cell."""
        return self.one.covers(cell) and not self.other.covers(cell)

    def is_over(self, cell):
        """Whether it lies over this cell."""
        return self.covers(require_cell(cell, "cell"))

    def with_land(self, old, new):
        """The same region with one land put in for another one."""
        return Rest(self.one.with_land(old, new), self.other.with_land(old, new))

    def __eq__(self, other):
        return isinstance(other, Rest) and self.one == other.one and self.other == other.other

    def __str__(self):
        return f"- {self.one} {self.other}"


def is_region(value):
    """Whether any value is a region."""
    return isinstance(value, (Land, Sum, Common, Rest))


def require_region(value, part):
    """Raise BadRegion for what is no region."""
    if not is_region(value):
        raise BadRegion(part)


def lands_of(regions):
    """The lands that these regions are made of, ascending, each once."""
    return tuple(sorted({name for region in regions for name in region.lands}))


def made_of(sign, one, other):
    """The region that this sign makes of two."""
    if sign == "+":
        return Sum(one, other)
    if sign == "*":
        return Common(one, other)
    return Rest(one, other)


def region_from(items, at, lands=None, depth=0):
    """The region that begins at this item, and the place behind it; None stands for all lands."""
    item = item_at(items, at)
    if item in ("+", "*", "-") and depth < Region.MOST_DEPTH:
        one, behind = region_from(items, at + 1, lands, depth + 1)
        other, behind = region_from(items, behind, lands, depth + 1)
        return made_of(item, one, other), behind
    if not is_name(item) or (lands is not None and item not in lands):
        raise BadText(0, at)
    return Land(item), at + 1
