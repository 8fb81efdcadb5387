"""Whether a value is a right paper of sizes."""

from math import gcd

from borderwords.checks import is_within
from borderwords.cones import Greatest
from borderwords.papers import is_among, is_just, is_own
from borderwords.scales import scale_of
from borderwords.shares import Endless, Neared, Reached, Share, gap_against, require_two_lands, size_by
from borderwords.sized import AgainstNeed, NotAbove, Sized, SureSize, contrary_scale
from borderwords.sizedrows import NoSizedRow, SizedRow, joined_parts
from borderwords.sizes import are_lengths, is_kept_with, require_sized
from borderwords.worlds import World


def shows_greatest(sized, value):
    """Whether any value is a right Greatest of the sized book."""
    require_sized(sized, "sized")
    if not isinstance(value, Greatest) or not is_own(value, "Greatest"):
        return False
    scale = scale_of(sized)
    if not are_weights(scale, value.weights) or not are_loads(scale, value.lengths):
        return False
    loads = loads_told(value.lengths)
    return list(loads) == scale.unbarred(value.weights) and min(scale.totals(loads), default=0) >= 0


def shows_sized(sized, value):
    """Whether any value is a right Sized, AgainstNeed or NotAbove of the sized book."""
    require_sized(sized, "sized")
    if isinstance(value, Sized) and is_own(value, "Sized"):
        return is_kept_by_lengths(sized, value.world, value.lengths)
    return is_denial_of(scale_of(sized), value)


def shows_sure_size(sized, saying, value):
    """Whether any value is a right SureSize of the size saying, or a Sized by which it is not kept."""
    further = contrary_scale(sized, saying)
    if isinstance(value, SureSize) and is_own(value, "SureSize"):
        return is_denial_of(further, value.paper)
    if not isinstance(value, Sized) or not is_own(value, "Sized"):
        return False
    if not is_kept_by_lengths(sized, value.world, value.lengths):
        return False
    return not is_kept_with(saying, value.world, value.lengths)


def shows_sized_row(sized, value):
    """Whether any value is a right SizedRow or NoSizedRow of the sized book."""
    require_sized(sized, "sized")
    if isinstance(value, SizedRow) and is_own(value, "SizedRow"):
        return is_kept_by_lengths(sized, value.world, value.lengths) and len(value.world.rows) == 1
    if not isinstance(value, NoSizedRow) or not is_own(value, "NoSizedRow"):
        return False
    rows = value.rows
    if not isinstance(rows, tuple) or not all([isinstance(row, tuple) and len(row) == 3 for row in rows]):
        return False
    scale = scale_of(sized)
    lots = [row[0] for row in rows]
    if not all([is_lot_of_cells(scale, cells) for cells in lots]) or len(lots) == 0 or lots[0] != scale.cells:
        return False
    return all([is_row_against(scale.on(cells), weights, what, lots[at + 1:])
                for at, (cells, weights, what) in enumerate(rows)])


def shows_share(sized, one, other, value):
    """Whether any value is a right Share of the sizes of two lands."""
    require_two_lands(sized, one, other)
    if not isinstance(value, Share) or not is_own(value, "Share"):
        return False
    if not is_kept_by_lengths(sized, value.world, value.lengths):
        return False
    scale = scale_of(sized)
    if isinstance(value.high, Endless) and is_own(value.high, "Endless"):
        return is_bound(sized, scale, (one, other, 1), value.low) and is_endless(scale, one, other, value.high.near)
    return is_bound(sized, scale, (one, other, 1), value.low) and is_bound(sized, scale, (one, other, -1), value.high)


def is_kept_by_lengths(sized, world, lengths):
    """Whether any two values are a world and lengths of it that keep the sized book."""
    if not isinstance(world, World) or world.lands != sized.book.lands or not are_lengths(world, lengths):
        return False
    return sized.keeps(world, lengths)


def are_integers_from(value, least, many):
    """Whether any value is a tuple of so many integers from this one on."""
    return isinstance(value, tuple) and len(value) == many and all([is_within(one, least, None) for one in value])


def are_weights(scale, value):
    """Whether any value is weights for the sums of a scale."""
    if not are_integers_from(value, 0, len(scale.sums)):
        return False
    return all([scale.worth_at(value, cell) <= 0 for cell in scale.cells])


def are_loads(scale, value):
    """Whether any value is pairs of let cells, in order, and their loads."""
    if not isinstance(value, tuple) or not all([isinstance(pair, tuple) and len(pair) == 2 for pair in value]):
        return False
    return is_lot_of_cells(scale, tuple([pair[0] for pair in value])) and all(
        [is_within(pair[1], 1, None) for pair in value])


def loads_told(pairs):
    """A dict of the loads that pairs of cells and loads tell."""
    return {cell: load for cell, load in pairs}


def is_lot_of_cells(scale, value):
    """Whether any value is a tuple of let cells, in order, each once."""
    if not isinstance(value, tuple) or not all([is_among(cell, scale.cells) for cell in value]):
        return False
    return list(value) == [cell for cell in scale.cells if cell in value]


def is_denial_of(scale, value):
    """Whether any value is a right AgainstNeed or NotAbove of what a scale tells."""
    if isinstance(value, AgainstNeed) and is_own(value, "AgainstNeed"):
        return are_weights(scale, value.weights) and is_against_need(scale, value.weights, value.need)
    if not isinstance(value, NotAbove) or not is_own(value, "NotAbove"):
        return False
    return are_weights(scale, value.weights) and is_against_above(scale, value.weights, value.number)


def is_against_need(scale, weights, value):
    """Whether any value is a need, and these weights bar a cell of each let border that has it."""
    let = scale.let & scale.among(scale.unbarred(weights))
    return is_among(value, [need for need, bits in scale.needed if (let & bits) == 0])


def is_against_above(scale, weights, value):
    """Whether any value is the number of a sum that must be above 0, whose weight is not 0."""
    if not is_within(value, 0, len(scale.sums) - 1):
        return False
    return scale.sums[value][1] and weights[value] > 0


def is_row_against(scale, weights, what, lots):
    """Whether a row of a NoSizedRow shows of its lot, told by a scale, what it tells; these are the lots behind it."""
    if not are_weights(scale, weights):
        return False
    if what is None:
        cells = scale.unbarred(weights)
        joined = joined_parts(scale, cells)
        if len(cells) == len(scale.cells) and len(joined) < 2:
            return False
        return all([part in lots for part in joined])
    if isinstance(what, tuple) and len(what) == 2 and is_just(what[0], "above"):
        return is_against_above(scale, weights, what[1])
    return is_against_need(scale, weights, what)


def is_bound(sized, scale, asked, value):
    """Whether any value is a right Reached or Neared: asked are the one land, the other one, and the side."""
    is_reached = isinstance(value, Reached) and is_own(value, "Reached")
    is_neared = isinstance(value, Neared) and is_own(value, "Neared")
    if not is_reached and not is_neared:
        return False
    if not is_within(value.number, 0, None) or not is_within(value.by, 1, None) or gcd(value.number, value.by) != 1:
        return False
    one, other, side = asked
    gap = gap_against(scale, one, other, side * value.number, side * value.by)
    further = scale.with_sum(gap, False)
    if not are_weights(further, value.weights) or value.weights[-1] == 0:
        return False
    if is_neared:
        return is_near(scale, gap, other, value.near) and is_denial_of(further, value.no)
    if not is_kept_by_lengths(sized, value.world, value.lengths):
        return False
    return is_at_bound(value, one, other)


def is_at_bound(paper, one, other):
    """Whether the sizes of two lands are just at the bound, by the world and the lengths of a Reached."""
    sizes = {one: 0, other: 0}
    for row, its in zip(paper.world.rows, paper.lengths):
        for cell, length in zip(row, its):
            for land in [one, other]:
                if land in cell:
                    sizes[land] = sizes[land] + length
    return paper.by * sizes[one] == paper.number * sizes[other]


def is_near(scale, gap, other, value):
    """Whether any value is loads by which no sum is below 0, the gap is 0, and the other land has a size."""
    if not are_loads(scale, value):
        return False
    loads = loads_told(value)
    if min(scale.totals(loads), default=0) < 0 or size_by(loads, other) == 0:
        return False
    return sum([gap[cell] * load for cell, load in loads.items()]) == 0


def is_endless(scale, one, other, value):
    """Whether any value is loads by which no sum is below 0, the one land has a size, and the other one none."""
    if not are_loads(scale, value):
        return False
    loads = loads_told(value)
    return min(scale.totals(loads), default=0) >= 0 and size_by(loads, one) > 0 and size_by(loads, other) == 0
