"""Sized books told by their borders: what they let and need, and the sums that must be 0 or more, or above 0."""

from borderwords.balances import Balance
from borderwords.fields import book_bits, borders_at, field_of, rows_with
from borderwords.sizes import Above, worth_of
from borderwords.worlds import World


class Scale:
    """A book of one word told as by book_bits, and sums: pairs of a dict of worths, and whether it must be above 0."""

    def __init__(self, field, let, needed, sums):
        self.field = field
        self.let = let
        self.needed = needed
        self.sums = sums
        self.cells = tuple([cell for cell, its in borders_at(field, let & field.equal)])

    def behind(self, barred, its):
        """The scale with a saying more, told as by saying_bits."""
        return Scale(self.field, self.let & ~barred, self.needed + its, self.sums)

    def with_sum(self, worths, is_above):
        """The scale with a sum more, behind the others."""
        return Scale(self.field, self.let, self.needed, self.sums + [(worths, is_above)])

    def on(self, cells):
        """The scale of which just these cells, and the borders of two of them, are let."""
        return Scale(self.field, self.let & self.among(cells), self.needed, self.sums)

    def among(self, cells):
        """The borders of two of these cells, each one once."""
        first = sum([self.field.firsts[cell] for cell in cells])
        second = sum([self.field.seconds[cell] for cell in cells])
        return first & second

    def totals(self, loads):
        """For each sum what it is by a dict of loads of let cells."""
        return [sum([worths[cell] * load for cell, load in loads.items()]) for worths, _ in self.sums]

    def worth_at(self, weights, cell):
        """The worths at a cell, each times its weight, added up."""
        return sum([worths[cell] * weight for (worths, _), weight in zip(self.sums, weights)])

    def unbarred(self, weights):
        """The let cells that these weights do not bar."""
        return [cell for cell in self.cells if self.worth_at(weights, cell) == 0]


class Lot:
    """The greatest lot of a scale: its cells, loads for them, the borders of them; and weights that bar the others."""

    def __init__(self, scale):
        worths = [[told[cell] for cell in scale.cells] for told, _ in scale.sums]
        balance = Balance(len(scale.cells), worths)
        self.loads = {cell: load for cell, load in zip(scale.cells, balance.loads) if load > 0}
        self.weights = balance.weights
        self.cells = tuple(list(self.loads))
        self.let = scale.let & scale.among(self.cells)


def scale_of(sized):
    """The scale of a sized book."""
    field = field_of(sized.book.lands)
    let, needed = book_bits(field, sized.book)
    return Scale(field, let, needed, [sum_told(field, saying) for saying in sized.sizes])


def sum_told(field, saying):
    """The sum of a size saying, as a scale has it."""
    return {cell: worth_of(saying.counts, cell) for cell in field.firsts}, isinstance(saying, Above)


def world_of_lot(scale, lot):
    """A world of just the cells of the lot, of which no need is lacking, and lengths that have its loads."""
    rows = rows_with(scale.field, lot.let, scale.needed) + [[cell] for cell in lot.cells]
    return World(rows), lengths_of(rows, lot.loads)


def lengths_of(rows, loads):
    """Lengths for these rows of cells whose sums are those of the loads times one integer."""
    many = {}
    for row in rows:
        for cell in row:
            many[cell] = many.get(cell, 0) + 1
    times = max(list(many.values()))
    # The first cell of a kind takes what the others, each of length 1, leave.
    left = {cell: times * loads[cell] - many[cell] + 1 for cell in many}
    lengths = []
    for row in rows:
        told = []
        for cell in row:
            told.append(left[cell])
            left[cell] = 1
        lengths.append(told)
    return lengths
