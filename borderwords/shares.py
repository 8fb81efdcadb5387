"""How great the size of one land can be beside that of another one."""

from math import gcd

from borderwords.balances import Table
from borderwords.checks import require_lands
from borderwords.errors import Twice
from borderwords.papers import Paper
from borderwords.scales import Lot
from borderwords.sized import possible_scale, told_of
from borderwords.sizes import require_sized


class Share(Paper):
    """The bounds for the size of one land divided by that of another one, and what keeps the sized book."""

    def __init__(self, low, high, world, lengths):
        super().__init__("share", low, high, world, lengths)
        self.low, self.high, self.world, self.lengths = self.parts


class Reached(Paper):
    """A bound, weights beyond which it does not lie, and what keeps the sized book just at it."""

    def __init__(self, number, by, weights, world, lengths):
        super().__init__("reached", number, by, weights, world, lengths)
        self.number, self.by, self.weights, self.world, self.lengths = self.parts


class Neared(Paper):
    """A bound, weights beyond which it does not lie, loads just at it, and why nothing that keeps the book is there."""

    def __init__(self, number, by, weights, near, no):
        super().__init__("neared", number, by, weights, near, no)
        self.number, self.by, self.weights, self.near, self.no = self.parts


class Endless(Paper):
    """No bound: loads by which the one land has a size, and the other one none."""

    def __init__(self, near):
        super().__init__("endless", near)
        self.near = self.parts[0]


def share(sized, one, other):
    """The Share of the sizes of two lands."""
    require_two_lands(sized, one, other)
    scale = possible_scale(sized)
    kept = told_of(scale)
    low = bound_of(scale, one, other, 1)
    high = bound_of(scale, one, other, -1)
    return Share(low, high, kept.world, kept.lengths)


def require_two_lands(sized, one, other):
    """Raise what share raises of its arguments, each by itself."""
    require_sized(sized, "sized")
    require_lands([one, other], sized.book.lands)
    if one == other:
        raise Twice(other)


def bound_of(scale, one, other, side):
    """The low bound of the sizes of two lands, for side 1, or the high one, for side -1."""
    loads = Lot(scale).loads
    while True:
        size, its = size_by(loads, one), size_by(loads, other)
        if its == 0:
            return Endless(list(loads.items()))
        number, by = size // gcd(size, its), its // gcd(size, its)
        further = scale.with_sum(gap_against(scale, one, other, side * number, side * by), True)
        is_had, values = looked_beyond(further)
        if not is_had:
            return bound_told(scale, number, by, further, values[len(scale.cells):], loads)
        loads = {cell: load for cell, load in zip(scale.cells, values) if load > 0}


def size_by(loads, land):
    """The size of a land by loads of cells."""
    return sum([load for cell, load in loads.items() if land in cell])


def gap_against(scale, one, other, number, by):
    """The worths of the gap times -1: above 0 are sums beyond the bound."""
    return {cell: (number if other in cell else 0) - (by if one in cell else 0) for cell in scale.field.firsts}


def looked_beyond(scale):
    """Whether some loads make the last sum of a scale greater than 0, and such loads; otherwise weights against it.

    The loads are such that no others lie between them and the rest: so few are found until a bound is.
    """
    worths = [[told[cell] for cell in scale.cells] for told, _ in scale.sums]
    table = Table(len(scale.cells), worths)
    return table.looked_at(table.many - 1)


def bound_told(scale, number, by, further, weights, loads):
    """The Reached or the Neared of a bound that these loads have, and beyond which these weights let nothing lie."""
    gap, _ = further.sums[-1]
    paper = told_of(scale.with_sum(gap, False))
    if paper:
        return Reached(number, by, weights, paper.world, paper.lengths)
    return Neared(number, by, weights, list(loads.items()), paper)
