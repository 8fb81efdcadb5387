"""What all worlds that keep a book have in common of its map."""

from borderwords.books import require_book
from borderwords.checks import WORDS, pairs_of
from borderwords.fields import field_of, word_table
from borderwords.listed import choices_told, is_left
from borderwords.maps import Map
from borderwords.papers import Denial, Paper
from borderwords.possible import possible, require_possible
from borderwords.regions import Land
from borderwords.sayings import Says
from borderwords.sure import require_room


class OneMap(Paper):
    """The only map that the book leaves."""

    def __init__(self, full):
        super().__init__("onemap", full)
        self.full = self.parts[0]


class SeveralMaps(Denial):
    """Two worlds that keep the book and have unlike maps."""

    def __init__(self, one, other):
        super().__init__("severalmaps", one, other)
        self.one, self.other = self.parts


def told_words(book):
    """The tuple of the two lands, in order, that have one and the same word in all worlds, each with this word."""
    require_book(book, "book")
    require_possible(book)
    require_room(book)
    return tuple([(one, other, words[0]) for one, other, words in words_had(book) if len(words) == 1])


def map_told(book):
    """The OneMap of the book, or a SeveralMaps."""
    require_book(book, "book")
    require_possible(book)
    require_room(book)
    had = words_had(book)
    for one, other, words in had:
        if len(words) > 1:
            papers = [possible(book.with_saying(Says(Land(one), [word], Land(other)))) for word in words[:2]]
            return SeveralMaps(papers[0].world, papers[1].world)
    return OneMap(map_of_words(book, had))


def words_had(book):
    """For each two lands of the book, in order, the list of the words that they have in worlds that keep it."""
    field = field_of(book.lands)
    choices = choices_told(field, book)
    had = []
    for one, other in pairs_of(book.lands):
        table = word_table(field, one, other)
        had.append((one, other, [word for word in WORDS if is_left(choices, [table[word]])]))
    return had


def map_of_words(book, had):
    """The map of the lands of the book, each two of which have just one word."""
    return Map(book.lands, [words[0] for one, other, words in had])
