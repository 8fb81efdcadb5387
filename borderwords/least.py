"""Least lots: sayings that tell all others of a book, and none of which the others of the lot tell."""

from borderwords.books import book_of, require_plain_single, require_single
from borderwords.errors import Impossible, TooMany, Twice
from borderwords.fields import is_left, wanted_of
from borderwords.idle import idle_by
from borderwords.lots import has_lot, lots_of
from borderwords.papers import Denial, Paper
from borderwords.possible import require_possible_by
from borderwords.readings import read_book, readings_of
from borderwords.sure import sayings_against

MOST_SAYINGS = 6


class LeastBook(Paper):
    """The lot of the sayings that are not idle, and for each saying of the book a Needed or an Idle."""

    def __init__(self, numbers, papers):
        super().__init__("leastbook", numbers, papers)
        self.numbers, self.papers = self.parts


class MustBeSame(Denial):
    """Two lands that are the same in each world that keeps the book."""

    def __init__(self, one, other):
        super().__init__("mustbesame", one, other)
        self.one, self.other = self.parts


def least_book(book):
    """The LeastBook of a plain book of one word that tells no two lands twice, and none to be the same."""
    require_plain_single(book, "book")
    require_told_once(book)
    told = read_book(book)
    require_possible_by(told)
    for saying in book.sayings:
        if len(saying.lands) == 2 and saying.words[0] == "same":
            raise Impossible(MustBeSame(saying.lands[0], saying.lands[1]))
    papers = [idle_by(told, number, saying) for number, saying in enumerate(book.sayings)]
    numbers = [number for number, paper in enumerate(papers) if not paper]
    for number, saying in enumerate(book.sayings):
        if number not in numbers:
            papers[number] = idle_by(told.of_lot(numbers + [number]), len(numbers), saying)
    return LeastBook(numbers, papers)


def least_books(book):
    """The tuple of all least lots of a book of one word, in order."""
    require_single(book, "book")
    told = read_book(book)
    require_possible_by(told)
    if len(book) > MOST_SAYINGS:
        raise TooMany("sayings", MOST_SAYINGS)
    against = [against_told(told.field, saying) for saying in book.sayings]
    found = []
    for lot in lots_of(len(book)):
        # Whatever has a lot that tells all sayings tells them, too: so the least ones are those without any such.
        if not has_lot(lot, found) and tells_all(told.of_lot(lot), [against[at] for at in others_of(lot, against)]):
            found.append(lot)
    return tuple(found)


def require_told_once(book):
    """Raise Twice for the lands of the first Says that tells those that one ahead of it tells."""
    told = {}
    for saying in book.sayings:
        pair = tuple(sorted([saying.one.name, saying.other.name]))
        if pair in told:
            raise Twice(pair)
        told[pair] = True


def lot_with(book, lot, number):
    """The book of a lot of a book, with the saying of this number behind."""
    return book_of(book, lot).with_saying(book.sayings[number])


def against_told(field, saying):
    """The sayings against a saying of one word, each told as for is_possible_with."""
    rows = [readings_of(field, one)[0] for one in sayings_against(saying)]
    return [(barred, wanted_of(its)) for _, barred, its in rows]


def others_of(lot, rows):
    """The list of the numbers of the rows that a lot has not."""
    return [number for number in range(len(rows)) if number not in lot]


def tells_all(told, against):
    """Whether a book of one word, told by its readings, is possible with no saying against one of those to be told."""
    choices = told.possible_choices()
    return not any([is_left(choices, [bits]) for rows in against for bits in rows])
