"""What all worlds that keep a book have in common of its map."""

from borderwords.books import require_book
from borderwords.checks import WORDS, pairs_of
from borderwords.fields import is_left, word_table
from borderwords.maps import Map
from borderwords.papers import Denial, Paper
from borderwords.possible import possible_by, require_possible_by
from borderwords.readings import read_book
from borderwords.regions import Land
from borderwords.sayings import Says
from borderwords.sure import require_room


class OneMap(Paper):
    """The only map that the book leaves."""

    def __init__(self, full):
        super().__init__("onemap", full)
        self.full = self.parts[0]


class SeveralMaps(Denial):
    """Two worlds that keep the book and have unlike maps."""

    def __init__(self, one, other):
        super().__init__("severalmaps", one, other)
        self.one, self.other = self.parts


def told_words(book):
    """The tuple of the two lands, in order, that have one and the same word in all worlds, each with this word."""
    told = read_with_room(book)
    return tuple([(one, other, words[0]) for one, other, words in words_had(book, told) if len(words) == 1])


def map_told(book):
    """The OneMap of the book, or a SeveralMaps."""
    told = read_with_room(book)
    had = words_had(book, told)
    for one, other, words in had:
        if len(words) > 1:
            papers = [possible_by(told.behind(Says(Land(one), [word], Land(other)))) for word in words[:2]]
            return SeveralMaps(papers[0].world, papers[1].world)
    return OneMap(map_of_words(book, had))


def read_with_room(book):
    """The readings of a possible book; what the functions of this file raise of it."""
    require_book(book, "book")
    told = read_book(book)
    require_possible_by(told)
    require_room(book)
    return told


def words_had(book, told):
    """For each two lands of a book, in order, the list of the words that they have in worlds that keep it."""
    choices = told.possible_choices()
    had = []
    for one, other in pairs_of(book.lands):
        table = word_table(told.field, Land(one), Land(other))
        had.append((one, other, [word for word in WORDS if is_left(choices, [table[word]])]))
    return had


def map_of_words(book, had):
    """The map of the lands of the book, each two of which have just one word."""
    return Map(book.lands, [words[0] for one, other, words in had])
