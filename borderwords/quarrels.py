"""Quarrels: the smallest lots of a book that no world keeps, and what to take back of it."""

from borderwords.books import require_book
from borderwords.errors import TooMany
from borderwords.lots import has_lot, lots_of, strikes_all
from borderwords.papers import Paper
from borderwords.possible import possible_by
from borderwords.readings import read_book

MOST_SAYINGS = 6


class Struck(Paper):
    """A lot to be left out, a world that keeps the others, and lots with Barreds that let no smaller one do."""

    def __init__(self, numbers, world, pairs):
        super().__init__("struck", numbers, world, pairs)
        self.numbers, self.world, self.pairs = self.parts


def quarrels(book):
    """The tuple of all quarrels of the book, in order."""
    require_few_sayings(book)
    return tuple([lot for lot, paper in quarrel_papers(read_book(book), len(book))])


def taken_back(book):
    """The Struck of the first lot that can be left out so that the book of the others is possible."""
    require_few_sayings(book)
    told = read_book(book)
    pairs = quarrel_papers(told, len(book))
    lots = [lot for lot, paper in pairs]
    # The book without a lot is possible exactly if the lot has a number of each quarrel.
    numbers = [lot for lot in lots_of(len(book)) if strikes_all(lot, lots)][0]
    left = [number for number in range(len(book)) if number not in numbers]
    return Struck(numbers, possible_by(told.of_lot(left)).world, pairs)


def require_few_sayings(book):
    """Raise what the functions of this file raise of a book."""
    require_book(book, "book")
    if len(book) > MOST_SAYINGS:
        raise TooMany("sayings", MOST_SAYINGS)


def quarrel_papers(told, many):
    """The list of the quarrels of a book of so many sayings, told by its readings, each with the Barred of its book."""
    if possible_by(told):
        return []
    found = []
    lots = []
    for lot in lots_of(many):
        # What has a lot that is not possible is not possible, either: so a quarrel has none ahead of it.
        if not has_lot(lot, lots):
            paper = possible_by(told.of_lot(lot))
            if not paper:
                found.append((lot, paper))
                lots.append(lot)
    return found
