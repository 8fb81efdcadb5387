"""Whether sized books are possible on one row."""

from borderwords.fields import borders_at
from borderwords.onerow import row_through
from borderwords.papers import Denial, Paper
from borderwords.parts import near_cells, parts_by
from borderwords.scales import Lot, lengths_of, scale_of
from borderwords.sized import NotAbove, denial_of
from borderwords.sizes import require_sized
from borderwords.worlds import World


class SizedRow(Paper):
    """A world of one row and lengths of it that keep the sized book."""

    def __init__(self, world, lengths):
        super().__init__("sizedrow", world, lengths)
        self.world, self.lengths = self.parts


class NoSizedRow(Denial):
    """Lots, the first one of all let cells, each with weights, and with what these show of it."""

    def __init__(self, rows):
        super().__init__("nosizedrow", rows)
        self.rows = self.parts[0]


def sized_on_one_row(sized):
    """The SizedRow of the sized book, or the NoSizedRow."""
    require_sized(sized, "sized")
    return told_on_one_row(scale_of(sized))


def told_on_one_row(scale):
    """As sized_on_one_row, of what a scale tells."""
    rows = []
    lots = [scale.cells]
    while len(lots) > 0:
        cells = lots.pop()
        here = scale.on(cells)
        lot = Lot(here)
        denial = denial_of(here, lot)
        if denial is not None:
            rows.append((cells, lot.weights, shown_by_denial(denial)))
            continue
        joined = joined_parts(here, lot.cells)
        if joined == [cells]:
            return row_of_lot(here, lot)
        rows.append((cells, lot.weights, None))
        lots.extend(joined)
    return NoSizedRow(rows)


def shown_by_denial(denial):
    """What a row shows of its lot by the weights of a denial."""
    if isinstance(denial, NotAbove):
        return ("above", denial.number)
    return denial.need


def joined_parts(scale, cells):
    """The list of the joined parts of some let cells."""
    return parts_by(near_cells(borders_at(scale.field, scale.let & scale.among(cells))))


def row_of_lot(scale, lot):
    """The SizedRow of a joined lot, of which no need is lacking and no sum is too small."""
    rows = [row_through(scale.field, lot.let, scale.needed)]
    return SizedRow(World(rows), lengths_of(rows, lot.loads))
