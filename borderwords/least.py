"""Least lots: sayings that tell all others of a book, and none of which the others of the lot tell."""

from borderwords.books import book_of, require_plain_single, require_single
from borderwords.errors import Impossible, TooMany, Twice
from borderwords.fields import book_bits, field_of, is_possible_with, saying_bits
from borderwords.idle import is_idle
from borderwords.lots import has_lot, lots_of
from borderwords.papers import Denial, Paper
from borderwords.possible import require_possible
from borderwords.sure import sayings_against

MOST_SAYINGS = 6


class LeastBook(Paper):
    """The lot of the sayings that are not idle, and for each saying of the book a Needed or an Idle."""

    def __init__(self, numbers, papers):
        super().__init__("leastbook", numbers, papers)
        self.numbers, self.papers = self.parts


class MustBeSame(Denial):
    """Two lands that are the same in each world that keeps the book."""

    def __init__(self, one, other):
        super().__init__("mustbesame", one, other)
        self.one, self.other = self.parts


def least_book(book):
    """The LeastBook of a plain book of one word that tells no two lands twice, and none to be the same."""
    require_plain_single(book, "book")
    require_told_once(book)
    require_possible(book)
    for saying in book.sayings:
        if len(saying.lands) == 2 and saying.words[0] == "same":
            raise Impossible(MustBeSame(saying.lands[0], saying.lands[1]))
    papers = [is_idle(book, number) for number in range(len(book))]
    numbers = [number for number, paper in enumerate(papers) if not paper]
    return LeastBook(numbers, [paper if number in numbers else is_idle(lot_with(book, numbers, number), len(numbers))
                               for number, paper in enumerate(papers)])


def least_books(book):
    """The tuple of all least lots of a book of one word, in order."""
    require_single(book, "book")
    require_possible(book)
    if len(book) > MOST_SAYINGS:
        raise TooMany("sayings", MOST_SAYINGS)
    field = field_of(book.lands)
    against = [[saying_bits(field, one, number) for one in sayings_against(saying)]
               for number, saying in enumerate(book.sayings)]
    found = []
    for lot in lots_of(len(book)):
        # Whatever has a lot that tells all sayings tells them, too: so the least ones are those without any such.
        if not has_lot(lot, found) and tells_all(book_bits(field, book_of(book, lot)), against):
            found.append(lot)
    return tuple(found)


def require_told_once(book):
    """Raise Twice for the lands of the first Says that tells those that one ahead of it tells."""
    told = {}
    for saying in book.sayings:
        pair = tuple(sorted([saying.one.name, saying.other.name]))
        if pair in told:
            raise Twice(pair)
        told[pair] = True


def lot_with(book, lot, number):
    """The book of a lot of a book, with the saying of this number behind."""
    return book_of(book, lot).with_saying(book.sayings[number])


def tells_all(told, against):
    """Whether a book, told as by book_bits, is possible with no saying against one of the sayings to be told."""
    return not any([is_possible_with(told, [bits]) for row in against for bits in row])
