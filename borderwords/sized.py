"""Whether sized books are possible, and what they make sure."""

from borderwords.checks import WORDS, require_lands
from borderwords.errors import Impossible
from borderwords.fields import saying_bits
from borderwords.papers import Denial, Paper
from borderwords.regions import require_region
from borderwords.sayings import Nowhere, Says
from borderwords.scales import Lot, scale_of, sum_told, world_of_lot
from borderwords.sizes import require_size_saying, require_sized


class Sized(Paper):
    """A world and lengths of it that keep the sized book."""

    def __init__(self, world, lengths):
        super().__init__("sized", world, lengths)
        self.world, self.lengths = self.parts


class AgainstNeed(Denial):
    """A need, and weights that bar a cell of each let border that has it."""

    def __init__(self, need, weights):
        super().__init__("againstneed", need, weights)
        self.need, self.weights = self.parts


class NotAbove(Denial):
    """The number of an Above, and weights, its own above 0."""

    def __init__(self, number, weights):
        super().__init__("notabove", number, weights)
        self.number, self.weights = self.parts


class SureSize(Paper):
    """A denial of the sized book with the contrary of a size saying behind its own."""

    def __init__(self, paper):
        super().__init__("suresize", paper)
        self.paper = self.parts[0]


def possible_sized(sized):
    """The Sized of the sized book, or the AgainstNeed or the NotAbove."""
    require_sized(sized, "sized")
    return told_of(scale_of(sized))


def words_left(sized, one, other):
    """The words of two regions where the sized book is kept, and "nowhere" if one of them can lie nowhere."""
    require_sized(sized, "sized")
    require_region(one, "one")
    require_region(other, "other")
    require_lands(one.lands, sized.book.lands)
    require_lands(other.lands, sized.book.lands)
    scale = possible_scale(sized)
    words = [word for word in WORDS if is_possible_behind(scale, Says(one, [word], other))]
    if is_possible_behind(scale, Nowhere(one)) or is_possible_behind(scale, Nowhere(other)):
        words.append("nowhere")
    return tuple(words)


def sure_size(sized, saying):
    """The SureSize of a size saying, or a Sized by which it is not kept."""
    further = contrary_scale(sized, saying)
    possible_scale(sized)
    paper = told_of(further)
    return paper if paper else SureSize(paper)


def contrary_scale(sized, saying):
    """The scale of the sized book with the contrary of a size saying behind its own; what sure_size raises of both."""
    require_sized(sized, "sized")
    require_size_saying(saying, "saying")
    for region, _ in saying.counts:
        require_lands(region.lands, sized.book.lands)
    scale = scale_of(sized)
    worths, is_above = sum_told(scale.field, saying.contrary())
    return scale.with_sum(worths, is_above)


def possible_scale(sized):
    """The scale of a sized book; Impossible with the denial if nothing keeps it."""
    scale = scale_of(sized)
    denial = denial_of(scale, Lot(scale))
    if denial is not None:
        raise Impossible(denial)
    return scale


def told_of(scale):
    """The Sized of what is told by a scale, or the denial."""
    lot = Lot(scale)
    denial = denial_of(scale, lot)
    if denial is not None:
        return denial
    world, lengths = world_of_lot(scale, lot)
    return Sized(world, lengths)


def denial_of(scale, lot):
    """The AgainstNeed of the first need, or the NotAbove of the least number, None if there is nothing against it."""
    for need, bits in scale.needed:
        if (lot.let & bits) == 0:
            return AgainstNeed(need, lot.weights)
    for number, (_, is_above) in enumerate(scale.sums):
        if is_above and lot.weights[number] > 0:
            return NotAbove(number, lot.weights)
    return None


def is_possible_behind(scale, saying):
    """Whether what a scale tells is possible with a saying of one word behind."""
    barred, its = saying_bits(scale.field, saying, len(scale.needed))
    further = scale.behind(barred, its)
    return denial_of(further, Lot(further)) is None
