"""All maps of few lands that films may have, counted in their order, and the steps between them.

Of the maps of a ground each one is a bit of an integer, the first one the lowest bit, so that an integer stands for
some of the maps.
"""

from borderwords.books import Book
from borderwords.checks import WORDS
from borderwords.limits import BECOMES, words_before
from borderwords.maps import Map
from borderwords.threes import rows_kept


class Ground:
    """The possible maps of at most three lands that keep a plain book, each told by its words and by its place."""

    def __init__(self, lands, stays):
        self.lands = lands
        self.rows = rows_kept(lands, Book(lands) if stays is None else stays)
        self.places = {words: place for place, words in enumerate(self.rows)}
        self.every = (1 << len(self.rows)) - 1
        # For each two lands, for each word: the maps with a word that it may become, and with one that may become it.
        self.later = []
        self.earlier = []
        for at in range(len(lands) * (len(lands) - 1) // 2):
            bits = self.bits_by_word(at)
            self.later.append({word: sum([bits[its] for its in BECOMES[word]]) for word in WORDS})
            self.earlier.append({word: sum([bits[its] for its in words_before(word)]) for word in WORDS})

    def bits_by_word(self, at):
        """For each word the maps that have it for these two lands."""
        bits = {word: 0 for word in WORDS}
        for place, words in enumerate(self.rows):
            bits[words[at]] = bits[words[at]] | (1 << place)
        return bits

    def bit_of(self, full):
        """The bit of a map of these lands, 0 if it is none of these maps."""
        return 1 << self.places[full.words] if full.words in self.places else 0

    def maps_in(self, bits):
        """The list of these maps, in order."""
        return [Map(self.lands, self.rows[place]) for place in places_in(bits)]

    def keeping(self, book):
        """The maps that keep a plain book."""
        return sum([1 << self.places[row] for row in rows_kept(self.lands, book) if row in self.places])

    def by_step(self, bits):
        """The maps to which a step leads from some of these."""
        found = 0
        for place in places_in(bits):
            to, back = self.every, self.every
            for at, word in enumerate(self.rows[place]):
                to = to & self.later[at][word]
                back = back & self.earlier[at][word]
            found = found | ((to | back) & ~(1 << place))
        return found

    def led_to(self, bits, barred):
        """The maps to which steps lead from these, which are not barred, by no barred one; these, too."""
        found, front = bits, bits
        while front != 0:
            front = self.by_step(front) & ~found & ~barred
            found = found | front
        return found

    def levels_to(self, ends, barred):
        """For each number of steps the maps from which an end is that far, but no nearer, by no barred one.

        The ends are told likewise, by the number of steps that are still to be taken there.
        """
        levels = []
        front, seen = 0, barred
        while front != 0 or len(levels) < len(ends):
            here = ends[len(levels)] if len(levels) < len(ends) else 0
            front = (here | self.by_step(front)) & ~seen
            seen = seen | front
            levels.append(front)
        return levels

    def next_on(self, bit, levels):
        """The first map behind this one on a shortest way, by what levels_to gives."""
        nearer = [levels[steps - 1] for steps, bits in enumerate(levels) if bits & bit][0]
        return lowest_of(self.by_step(bit) & nearer)


def places_in(bits):
    """The list of the places of these bits, ascending."""
    places = []
    left = bits
    while left != 0:
        bit = lowest_of(left)
        places.append(bit.bit_length() - 1)
        left = left ^ bit
    return places


def lowest_of(bits):
    """The lowest of these bits, 0 for none."""
    return bits & -bits
