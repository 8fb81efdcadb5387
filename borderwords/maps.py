"""Maps: lands, and the word of each two of them."""

from borderwords.books import Book, require_plain_single
from borderwords.checks import (
    TURNED, are_name_pairs, are_names, are_words, is_list, item_at, is_word, lands_from, new_names, pairs_of,
    require_end, require_land, require_lands, require_unlike, text_items, turned_word)
from borderwords.errors import BadBook, BadMap, BadText, BadWord, TooMany
from borderwords.looks import word_here
from borderwords.regions import Land
from borderwords.sayings import Says
from borderwords.worlds import require_world

MOST_LANDS = 10


class Map:
    """Lands, one to ten, and one word for each two of them."""

    def __init__(self, lands, words):
        if not are_names(lands) or len(lands) == 0:
            raise BadMap("lands")
        if len(set(lands)) < len(lands):
            require_unlike(lands)
        if not are_words(words):
            raise BadWord("words")
        if len(words) != pairs_among(len(lands)):
            raise BadMap("words")
        if len(lands) > MOST_LANDS:
            raise TooMany("lands", MOST_LANDS)
        pairs = pairs_of(lands)
        self.lands = tuple(sorted(lands))
        self.table = {(land, land): "same" for land in lands}
        for (one, other), word in zip(pairs, words):
            self.table[one, other] = word
            self.table[other, one] = TURNED.get(word, word)
        # Most maps are made of ascending lands: their words stand in order already.
        if self.lands != tuple(lands):
            pairs = pairs_of(self.lands)
        self.words = tuple([self.table[pair] for pair in pairs])

    def __eq__(self, other):
        return isinstance(other, Map) and self.lands == other.lands and self.words == other.words

    def __str__(self):
        return " ".join([*self.lands, ":", *self.words])

    def word(self, one, other):
        """The word of one land to another one, same if they are equal."""
        require_land(one, self.lands)
        require_land(other, self.lands)
        return self.table[one, other]

    def part(self, lands):
        """The map of these of its lands, one at least, each told once."""
        if not is_list(lands):
            raise BadMap("lands")
        require_lands(lands, self.lands)
        return Map(lands, [self.table[pair] for pair in pairs_of(lands)])

    def renamed(self, pairs):
        """The map with new names for some lands: pairs of a land and its new name."""
        if not are_name_pairs(pairs):
            raise BadMap("pairs")
        names = new_names(self.lands, pairs)
        return Map([names[land] for land in self.lands], self.words)

    def as_book(self):
        """The book with a Says of one word for each two lands, in order."""
        return Book(self.lands, says_of(self))

    @staticmethod
    def of(book):
        """The map that a plain book of one word tells, each two lands once."""
        require_plain_single(book, "book")
        told = {}
        for saying in book.sayings:
            one, other, word = saying.one.name, saying.other.name, saying.words[0]
            told[one, other] = word
            told[other, one] = turned_word(word)
        pairs = pairs_of(book.lands)
        # As many sayings as pairs: so with none missing there is no pair told twice, nor a land with itself.
        if len(book.sayings) != len(pairs) or not all([pair in told for pair in pairs]):
            raise BadBook("book")
        return Map(book.lands, [told[pair] for pair in pairs])

    @staticmethod
    def read(text):
        """The map whose text this is."""
        items = text_items(text)
        lands, at = lands_from(items, MOST_LANDS)
        end = at + pairs_among(len(lands))
        for place in range(at, end):
            if not is_word(item_at(items, place)):
                raise BadText(0, place)
        require_end(items, end)
        return Map(lands, items[at:end])


def pairs_among(many):
    """How many pairs there are among so many lands."""
    return many * (many - 1) // 2


def require_map(value, part):
    """Raise BadMap for what is no map."""
    if not isinstance(value, Map):
        raise BadMap(part)


def says_of(full):
    """The list of the sayings that a map tells, for each two lands in order."""
    pairs = pairs_of(full.lands)
    return [Says(Land(one), [word], Land(other)) for (one, other), word in zip(pairs, full.words)]


def map_of(world):
    """The map that the world has."""
    require_world(world, "world")
    words = [word_here(world, Land(one), Land(other)) for one, other in pairs_of(world.lands)]
    return Map(world.lands, words)
