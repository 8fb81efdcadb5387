"""The greatest lot of cells that have loads by which no sum of a sized book is below 0."""

from borderwords.papers import Paper
from borderwords.scales import Lot, scale_of
from borderwords.sizes import require_sized


class Greatest(Paper):
    """The cells of the greatest lot, each with its load, and weights that bar just the other let cells."""

    def __init__(self, lengths, weights):
        super().__init__("greatest", lengths, weights)
        self.lengths, self.weights = self.parts


def greatest(sized):
    """The Greatest of the sized book."""
    require_sized(sized, "sized")
    lot = Lot(scale_of(sized))
    return Greatest(list(lot.loads.items()), lot.weights)
