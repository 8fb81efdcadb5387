"""Whether a value is a right paper of idle sayings, of a least book, of what to take back."""

from borderwords.books import book_of, require_book, require_number, require_plain_single
from borderwords.check_possible import is_barred_by, is_kept_by
from borderwords.check_sure import are_barreds
from borderwords.idle import Idle, Needed
from borderwords.least import LeastBook, lot_with, require_told_once
from borderwords.lots import is_lot, lots_of, strikes_all
from borderwords.papers import is_own
from borderwords.quarrels import Struck, require_few_sayings
from borderwords.sure import sayings_against


def shows_idle(book, number, value):
    """Whether any value is a right Idle or Needed of a saying of the book."""
    require_book(book, "book")
    require_number(number, book)
    return is_needed_for(book, number, value) or is_idle_for(book, number, value)


def is_needed_for(book, number, value):
    """Whether any value is a Needed of a world that keeps all sayings of the book but this one."""
    if not isinstance(value, Needed) or not is_own(value, "Needed"):
        return False
    return is_kept_by(book.without([number]), value.world) and not book.sayings[number].is_kept(value.world)


def is_idle_for(book, number, value):
    """Whether any value is an Idle with right papers of this saying of the book."""
    if not isinstance(value, Idle) or not is_own(value, "Idle"):
        return False
    return are_barreds(book.without([number]), sayings_against(book.sayings[number]), value.papers)


def shows_least(book, value):
    """Whether any value is a right LeastBook of the book."""
    require_plain_single(book, "book")
    require_told_once(book)
    if not isinstance(value, LeastBook) or not is_own(value, "LeastBook"):
        return False
    if not is_lot(value.numbers, len(book)) or not isinstance(value.papers, tuple):
        return False
    if len(value.papers) != len(book):
        return False
    return all([is_least_paper(book, value.numbers, number, paper) for number, paper in enumerate(value.papers)])


def is_least_paper(book, lot, number, paper):
    """Whether any value shows that a saying of the lot is not idle, or that the lot tells another one."""
    if number in lot:
        return is_needed_for(book, number, paper)
    return is_idle_for(lot_with(book, lot, number), len(lot), paper)


def shows_struck(book, value):
    """Whether any value is a right Struck of the book."""
    require_few_sayings(book)
    if not isinstance(value, Struck) or not is_own(value, "Struck"):
        return False
    if not is_lot(value.numbers, len(book)) or not is_kept_by(book.without(value.numbers), value.world):
        return False
    if not isinstance(value.pairs, tuple) or not all([is_barred_lot(book, pair) for pair in value.pairs]):
        return False
    lots = [pair[0] for pair in value.pairs]
    fewer = [lot for lot in lots_of(len(book)) if len(lot) < len(value.numbers)]
    return not any([strikes_all(lot, lots) for lot in fewer])


def is_barred_lot(book, value):
    """Whether any value is a pair of a lot of the book and of a right Barred of its book."""
    if not isinstance(value, tuple) or len(value) != 2 or not is_lot(value[0], len(book)):
        return False
    return is_barred_by(book_of(book, value[0]), value[1])
