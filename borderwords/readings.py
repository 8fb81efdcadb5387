"""Books told reading by reading: of each word of each saying, what it bars and needs, is looked at just once."""

from borderwords.checks import rows_of
from borderwords.fields import at_bits, barred_by, field_of, needed_by, wanted_of
from borderwords.regions import Land
from borderwords.sayings import Says


class Readings:
    """A book: the needs of its lands, and for each saying the list of its readings.

    A reading is a word, the borders that it bars, and what it needs, pairs of a kind of need and of the borders
    that have it. A Nowhere has one reading, of no word. A row of readings, one for each saying, is a choice.
    """

    def __init__(self, field, base, sayings):
        self.field = field
        self.base = base
        self.sayings = sayings

    def behind(self, saying):
        """The readings of the book with this saying behind the others."""
        return Readings(self.field, self.base, self.sayings + [readings_of(self.field, saying)])

    def of_lot(self, lot):
        """The readings of the book with just the sayings of a lot."""
        return Readings(self.field, self.base, [self.sayings[number] for number in lot])

    def but(self, number):
        """The readings of the book without this saying."""
        return Readings(self.field, self.base, self.sayings[:number] + self.sayings[number + 1:])

    def choice_rows(self):
        """All choices, in order."""
        return rows_of(self.sayings)

    def let_by(self, row):
        """The borders that a choice lets."""
        let = self.field.every
        for _, barred, _ in row:
            let = let & ~barred
        return let

    def needed_of(self, row):
        """What a choice needs, in order: pairs of a need and of the borders that have it."""
        return self.base + [((kind, number), bits) for number, (_, _, its) in enumerate(row) for kind, bits in its]

    def first_lack(self, let, row):
        """The first need of a choice that none of the let borders has, None if there is none."""
        for need, bits in self.base:
            if (let & bits) == 0:
                return need
        for number, (_, _, its) in enumerate(row):
            for kind, bits in its:
                if (let & bits) == 0:
                    return (kind, number)
        return None

    def lacks_of(self, row):
        """The list of all needs of a choice that no border has which it lets."""
        let = self.let_by(row)
        return [need for need, bits in self.needed_of(row) if (let & bits) == 0]

    def possible_choices(self):
        """The choices that are possible, each told as for is_possible_with."""
        found = []
        for row in self.choice_rows():
            let = self.let_by(row)
            if self.first_lack(let, row) is None:
                found.append((let, wanted_of(self.needed_of(row))))
        return found


def readings_of(field, saying):
    """The list of the readings of a saying."""
    if not isinstance(saying, Says):
        return [nowhere_reading(field, saying.region)]
    one, other = field.sides(saying.one), field.sides(saying.other)
    return [word_reading(field, word, one, other) for word in saying.words]


def nowhere_reading(field, region):
    """The reading of the saying that a region lies nowhere."""
    return (None, at_bits(field.sides(region)), [])


def word_reading(field, word, one, other):
    """The reading of a word of two regions, told by their sides."""
    return (word, barred_by(word, one, other), needed_by(word, one, other, field.equal))


def words_taken(row):
    """The words of a choice, one for each Says in order."""
    return tuple([word for word, _, _ in row if word is not None])


def read_book(book):
    """The readings of a book."""
    field = field_of(book.lands)
    base = [(("land", name), field.equal & field.sides(Land(name))[0]) for name in book.lands]
    return Readings(field, base, [readings_of(field, saying) for saying in book.sayings])
