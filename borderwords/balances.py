"""Loads and weights: which cells can have loads by which no sum is below 0, and which of them weights bar."""

from math import gcd


class Balance:
    """What some sums of worths at some cells let, told by integers.

    `loads` are above 0 for the cells that can have one, and 0 for the others, which `weights` bar; a weight is
    above 0 just if its sum can be no more than 0.
    """

    def __init__(self, many, worths):
        table = Table(many, worths)
        # Items are counted, first the cells, then the sums: each comes to be above 0 in just one of the two.
        had = [0] * table.many
        kept = [0] * table.many
        for item in range(table.many):
            if had[item] == 0 and kept[item] == 0:
                is_had, values = table.looked_at(item)
                if is_had:
                    had = added(had, values)
                else:
                    kept = added(kept, values)
        self.loads = had[:many]
        self.weights = kept[many:]


class Table:
    """The values that weights give to all items, each made of those of the free items.

    Weights give to a sum its weight, to a cell what its worths, each times its weight, leave below 0: no value may
    be below 0. There are as many free items as sums. The value of another item is that of each free one times the
    number in its row, added up, divided by `by`.
    """

    def __init__(self, many, worths):
        self.many = many + len(worths)
        self.made = list(range(many))
        self.free = list(range(many, self.many))
        self.rows = [[-row[at] for row in worths] for at in range(many)]
        self.by = 1

    def looked_at(self, item):
        """Whether some loads give something to the item, and such loads; otherwise weights that do.

        Items are exchanged, always the least one that can be (so that no table comes again), until a row or a
        column shows one of the two.
        """
        while True:
            at = self.free_for(item)
            if at is None:
                return True, self.loads_in(self.made.index(item))
            place = self.made_against(at)
            if place is None:
                return False, self.weights_in(at)
            self.exchange(place, at)

    def free_for(self, item):
        """The place of the least free item that makes the value of this one greater, None if none does."""
        if item in self.free:
            return self.free.index(item)
        row = self.rows[self.made.index(item)]
        found = [(its, at) for at, its in enumerate(self.free) if row[at] > 0]
        return min(found)[1] if len(found) > 0 else None

    def made_against(self, at):
        """The place of the least made item whose value the free one at this place makes less, None if there is none."""
        found = [(its, place) for place, its in enumerate(self.made) if self.rows[place][at] < 0]
        return min(found)[1] if len(found) > 0 else None

    def exchange(self, place, at):
        """Make the made item at a place free, and the free one whose value makes that one's less made."""
        row = self.rows[place]
        by = -row[at]
        self.rows = [self.exchanged(its, row, at) for its in self.rows]
        self.rows[place] = [-self.by if column == at else number for column, number in enumerate(row)]
        self.made[place], self.free[at] = self.free[at], self.made[place]
        self.by = by

    def exchanged(self, its, row, at):
        """A row behind the exchange of the item of another row and of a free one; what is divided leaves no rest."""
        return [-its[at] if column == at else (its[at] * number - row[at] * its[column]) // self.by
                for column, number in enumerate(row)]

    def loads_in(self, place):
        """The loads of a row without a number above 0: the value of its item and these of the free ones make 0."""
        values = [0] * self.many
        values[self.made[place]] = self.by
        for at, number in enumerate(self.rows[place]):
            values[self.free[at]] = -number
        return lowered(values)

    def weights_in(self, at):
        """The values by weights of a column without a number below 0."""
        values = [0] * self.many
        values[self.free[at]] = self.by
        for place, row in enumerate(self.rows):
            values[self.made[place]] = row[at]
        return lowered(values)


def added(values, others):
    """The values and the others, added up one by one."""
    return [value + its for value, its in zip(values, others)]


def lowered(values):
    """The values, not all of them 0, divided by all that they have in common."""
    by = 0
    for value in values:
        by = gcd(by, value)
    return [value // by for value in values]
