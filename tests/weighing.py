"""The definitions of point [14], looked at cell by cell: loads, weights, and the papers of sized books."""

import math

from borderwords.books import Book
from borderwords.cones import Greatest
from borderwords.regions import Region
from borderwords.shares import Endless, Neared, Reached, Share
from borderwords.sized import AgainstNeed, NotAbove, Sized, SureSize
from borderwords.sizedrows import NoSizedRow, SizedRow
from borderwords.sizes import Above, AtLeast, SizedBook
from borderwords.worlds import World
from tests.support import (
    cell_order, is_exact, let_by_definition, names_of, needs_by_definition, over, rows_of, some_plain_text,
    some_region_text, some_saying_text, world_keeps)


class Told:
    """A sized book told by texts: its lands, its sayings, and sums: (is it an Above, pairs of a text and a count)."""

    def __init__(self, lands, texts, sums=()):
        self.lands = tuple(sorted(lands))
        self.texts = list(texts)
        self.sums = list(sums)
        self.let = let_by_definition(self.lands, texts)
        self.cells = sorted({p for p, q in self.let if p == q}, key=cell_order)
        self.needs = needs_by_definition(self.lands, texts)

    def sized(self):
        sayings = [(Above if is_above else AtLeast)(made_counts(counts)) for is_above, counts in self.sums]
        return SizedBook(Book.read(" ".join([*self.lands, ":"] + ([" / ".join(self.texts)] if self.texts else []))),
                         sayings)

    def with_sum(self, is_above, counts):
        return Told(self.lands, self.texts, self.sums + [(is_above, counts)])

    def with_text(self, text):
        return Told(self.lands, self.texts + [text], self.sums)

    def __repr__(self):
        return f"{self.lands} {self.texts} {self.sums}"


def made_counts(counts):
    return [(Region.read(text), count) for text, count in counts]


def worth(counts, cell):
    return sum(count for text, count in counts if over(text, cell))


def is_whole(value, least=0):
    return type(value) is int and value >= least


def are_weights(told, value, cells=None):
    """Whether a value is weights, for these let cells."""
    if not isinstance(value, tuple) or len(value) != len(told.sums) or not all(is_whole(one) for one in value):
        return False
    return all(weighed(told, value, cell) <= 0 for cell in (told.cells if cells is None else cells))


def weighed(told, weights, cell):
    return sum(worth(counts, cell) * weight for (is_above, counts), weight in zip(told.sums, weights))


def are_loads(told, value):
    """Whether a value is pairs of let cells, in order, and loads, by which each sum is 0 or more."""
    if not isinstance(value, tuple) or not all(isinstance(one, tuple) and len(one) == 2 for one in value):
        return False
    cells = [names_of(cell) for cell in told.cells]
    if not all(any(is_exact(pair[0], cell) for cell in cells) and is_whole(pair[1], 1) for pair in value):
        return False
    places = [cells.index(cell) for cell, load in value]
    return places == sorted(set(places)) and all(summed(counts, value) >= 0 for is_above, counts in told.sums)


def summed(counts, loads):
    return sum(worth(counts, frozenset(cell)) * load for cell, load in loads)


def is_right_greatest(told, value):
    if type(value) is not Greatest or not are_weights(told, value.weights) or not are_loads(told, value.lengths):
        return False
    barred = [cell for cell in told.cells if weighed(told, value.weights, cell) < 0]
    return [frozenset(cell) for cell, load in value.lengths] == [cell for cell in told.cells if cell not in barred]


def keeps_lengths(told, world, lengths):
    """Whether two values are a world and lengths that keep the sized book."""
    if not isinstance(world, World) or not world_keeps(world, told.lands, told.texts):
        return False
    if not isinstance(lengths, (list, tuple)) or len(lengths) != len(world.rows):
        return False
    for row, its in zip(world.rows, lengths):
        if not isinstance(its, (list, tuple)) or len(its) != len(row) or not all(is_whole(one, 1) for one in its):
            return False
    return all(sum_in(world, lengths, counts) >= (1 if is_above else 0) for is_above, counts in told.sums)


def sum_in(world, lengths, counts):
    return sum(worth(counts, cell) * length for row, its in zip(rows_of(world), lengths)
               for cell, length in zip(row, its))


def is_against_need(told, need, weights, cells=None):
    """Whether weights bar a cell of each let border, of two of these cells, that has the need."""
    cells = told.cells if cells is None else cells
    for own, has in told.needs:
        if is_exact(need, own):
            return not any(has(p, q) and p in cells and q in cells and weighed(told, weights, p) == 0
                           and weighed(told, weights, q) == 0 for p, q in told.let)
    return False


def is_right_denial(told, value):
    if type(value) is AgainstNeed:
        return are_weights(told, value.weights) and is_against_need(told, value.need, value.weights)
    return type(value) is NotAbove and are_weights(told, value.weights) and is_against_above(
        told, value.number, value.weights)


def is_against_above(told, number, weights):
    return is_whole(number) and number < len(told.sums) and told.sums[number][0] and weights[number] > 0


def is_right_sized(told, value):
    if type(value) is Sized:
        return keeps_lengths(told, value.world, value.lengths)
    return is_right_denial(told, value)


def contrary(is_above, counts):
    return not is_above, [(text, -count) for text, count in counts]


def is_right_sure_size(told, is_above, counts, value):
    if type(value) is SureSize:
        return is_right_denial(told.with_sum(*contrary(is_above, counts)), value.paper)
    return (type(value) is Sized and keeps_lengths(told, value.world, value.lengths)
            and not sum_in(value.world, value.lengths, counts) >= (1 if is_above else 0))


def joined_parts(told, cells):
    """The joined parts of some let cells, as a list of sets."""
    left, parts = list(cells), []
    while left:
        part = {left[0]}
        while True:
            more = {c for c in left if c not in part
                    and any((p in part and q == c) or (q in part and p == c) for p, q in told.let)}
            if not more:
                break
            part |= more
        parts.append(part)
        left = [cell for cell in left if cell not in part]
    return parts


def is_right_sized_row(told, value):
    if type(value) is SizedRow:
        return keeps_lengths(told, value.world, value.lengths) and len(value.world.rows) == 1
    if type(value) is not NoSizedRow or not isinstance(value.rows, tuple) or not value.rows:
        return False
    lots = []
    for row in value.rows:
        if not isinstance(row, tuple) or len(row) != 3 or not isinstance(row[0], tuple):
            return False
        cells = [names_of(cell) for cell in told.cells]
        if not all(any(is_exact(cell, own) for own in cells) for cell in row[0]):
            return False
        places = [cells.index(cell) for cell in row[0]]
        if places != sorted(set(places)):
            return False
        lots.append([told.cells[place] for place in places])
    if lots[0] != told.cells:
        return False
    return all(is_right_row(told, lots, at, weights, what) for at, (cells, weights, what) in enumerate(value.rows))


def is_right_row(told, lots, at, weights, what):
    cells = lots[at]
    if not are_weights(told, weights, cells):
        return False
    if what is None:
        left = [cell for cell in cells if weighed(told, weights, cell) == 0]
        parts = joined_parts(told, left)
        return (len(left) < len(cells) or len(parts) > 1) and all(
            any(set(lot) == part for lot in lots[at + 1:]) for part in parts)
    if isinstance(what, tuple) and len(what) == 2 and is_exact(what[0], "above"):
        return is_against_above(told, what[1], weights)
    return is_against_need(told, what, weights, cells)


def is_right_bound(told, one, other, side, value):
    """Whether a value is a right Reached or Neared of the low bound (side 1) or the high one (side -1)."""
    if type(value) not in (Reached, Neared) or not is_whole(value.number) or not is_whole(value.by, 1):
        return False
    if math.gcd(value.number, value.by) != 1:
        return False

    def gap(cell):
        return side * (value.by * (one in cell) - value.number * (other in cell))

    weights = value.weights
    if not isinstance(weights, tuple) or len(weights) != len(told.sums) + 1 or not all(map(is_whole, weights)):
        return False
    if weights[-1] < 1 or any(weighed(told, weights, cell) > gap(cell) * weights[-1] for cell in told.cells):
        return False
    if type(value) is Reached:
        return keeps_lengths(told, value.world, value.lengths) and 0 == sum(
            gap(cell) * length for row, its in zip(rows_of(value.world), value.lengths)
            for cell, length in zip(row, its))
    if not are_loads(told, value.near) or not any(other in cell for cell, load in value.near):
        return False
    if sum(gap(cell) * load for cell, load in value.near) != 0:
        return False
    # The counts of a gap may be beyond 9: here they need not be those of a class.
    return is_right_denial(told.with_sum(False, [(one, -side * value.by), (other, side * value.number)]), value.no)


def is_right_share(told, one, other, value):
    if type(value) is not Share or not keeps_lengths(told, value.world, value.lengths):
        return False
    if not is_right_bound(told, one, other, 1, value.low):
        return False
    if type(value.high) is Endless:
        near = value.high.near
        return (are_loads(told, near) and any(one in cell for cell, load in near)
                and not any(other in cell for cell, load in near))
    return is_right_bound(told, one, other, -1, value.high)


def is_above_by_some_loads(told, number, cells=None):
    """Whether some loads of these let cells make this sum more than 0, and none less than 0.

    Asked of weights, one for each sum, the wanted one 1 or more: they are left out one by one (Fourier, Motzkin).
    """
    cells = told.cells if cells is None else cells
    many = len(told.sums)
    rows = {tuple(worth(counts, cell) for is_above, counts in told.sums) + (0,) for cell in cells}
    rows |= {tuple(-1 if at == its else 0 for at in range(many)) + ((-1 if its == number else 0),)
             for its in range(many)}
    for at in range(many):
        above = [row for row in rows if row[at] > 0]
        below = [row for row in rows if row[at] < 0]
        rows = {row for row in rows if row[at] == 0}
        rows |= {lowest([one * -its[at] + other * row[at] for one, other in zip(row, its)])
                 for row in above for its in below}
    return any(row[-1] < 0 for row in rows)


def lowest(numbers):
    by = math.gcd(*numbers) or 1
    return tuple(number // by for number in numbers)


def some_sum(chance, lands, most=4):
    counts = {some_region_text(chance, lands): chance.choice([-9, -3, -2, -1, 1, 1, 2, 3, 9, 0])
              for _ in range(chance.randint(1, most))}
    return chance.random() < 0.5, list(counts.items())


def some_told(chance, lands, sums=None, sayings=3):
    """A sized book told by texts, most often one whose book is possible."""
    texts = []
    for _ in range(chance.randint(0, sayings)):
        texts.append(some_plain_text(chance, lands) if chance.random() < 0.7 else
                     some_saying_text(chance, lands, 2, 1))
    return Told(lands, texts, [some_sum(chance, lands) for _ in range(chance.randint(0, 4) if sums is None else sums)])
