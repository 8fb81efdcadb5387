"""Whether a value is a right paper of what is sure by a book, of the maps that it leaves, of what to ask."""

from borderwords.asking import Asked, Known, Plan, answers_of, next_of, shortest_plan
from borderwords.books import require_book
from borderwords.brought import Breaks, Brought, Unbrought, require_bringing, unshown
from borderwords.check_possible import is_barred_by, is_kept_by
from borderwords.checks import pairs_of, require_lands
from borderwords.fields import book_bits, borders_at, field_of, saying_bits, shown_by
from borderwords.left import OneMap, SeveralMaps, map_of_words, words_had
from borderwords.listed import maps_left
from borderwords.maps import Map, map_of
from borderwords.papers import is_among, is_just, is_own
from borderwords.possible import possible
from borderwords.sayings import require_saying
from borderwords.sure import Never, Open, Surely, require_room, sayings_against, sayings_for


def shows_asked(book, saying, value):
    """Whether any value is a right Surely, Never or Open of the saying by the book, which need not be possible."""
    require_book(book, "book")
    require_saying(saying, "saying")
    require_lands(saying.lands, book.lands)
    require_room(book)
    if isinstance(value, Surely) and is_own(value, "Surely"):
        return are_barreds(book, sayings_against(saying), value.papers)
    if isinstance(value, Never) and is_own(value, "Never"):
        return are_barreds(book, sayings_for(saying), value.papers)
    if not isinstance(value, Open) or not is_own(value, "Open"):
        return False
    if not is_kept_by(book, value.one) or not is_kept_by(book, value.other):
        return False
    return saying.is_kept(value.one) and not saying.is_kept(value.other)


def are_barreds(book, sayings, papers):
    """Whether there is, for each of these sayings, a right Barred of the book with this one behind."""
    if not isinstance(papers, tuple) or len(papers) != len(sayings):
        return False
    return all([is_barred_by(book.with_saying(saying), paper) for saying, paper in zip(sayings, papers)])


def shows_brought(book, saying, value):
    """Whether any value is a right Brought, Breaks or Unbrought of the saying by the book."""
    require_bringing(book, saying)
    require_room(book)
    field = field_of(book.lands)
    let, needed = book_bits(field, book)
    barred, its = saying_bits(field, saying, len(book))
    rows = [(need, unshown(let, needed, shown_by(field, bits))) for need, bits in its]
    if isinstance(value, Brought) and is_own(value, "Brought"):
        return (let & barred) == 0 and are_bringing(rows, value.needs)
    if isinstance(value, Breaks) and is_own(value, "Breaks"):
        return is_among(value.border, borders_at(field, let & barred))
    if not isinstance(value, Unbrought) or not is_own(value, "Unbrought"):
        return False
    return any([is_just(value.need, need) and are_apart(field, row, value.borders) for need, row in rows])


def are_bringing(rows, value):
    """Whether any value tells for each need of the saying a need of the book that brings it."""
    if not isinstance(value, tuple) or len(value) != len(rows):
        return False
    return all([is_among(told, [own for own, left in row if left == 0]) for told, (need, row) in zip(value, rows)])


def are_apart(field, row, value):
    """Whether any value tells for each need of the book one of the borders left for it."""
    if not isinstance(value, tuple) or len(value) != len(row):
        return False
    return all([is_among(border, borders_at(field, left)) for border, (own, left) in zip(value, row)])


def shows_told(book, value):
    """Whether any value is the OneMap of the book, or a right SeveralMaps of it."""
    require_book(book, "book")
    require_room(book)
    if isinstance(value, OneMap) and is_own(value, "OneMap"):
        return isinstance(value.full, Map) and is_only_map(book, value.full)
    if not isinstance(value, SeveralMaps) or not is_own(value, "SeveralMaps"):
        return False
    if not is_kept_by(book, value.one) or not is_kept_by(book, value.other):
        return False
    return map_of(value.one) != map_of(value.other)


def is_only_map(book, full):
    """Whether the book is possible and leaves just this map."""
    had = words_had(book)
    if not possible(book) or not all([len(words) == 1 for one, other, words in had]):
        return False
    return full == map_of_words(book, had)


def shows_asking(book, value):
    """Whether any value is the Known or the Asked of the book, or a right Plan for the maps that it leaves."""
    require_book(book, "book")
    maps = maps_left(book)
    if len(maps) == 0:
        return False
    if isinstance(value, Plan) and is_own(value, "Plan"):
        many, _ = shortest_plan(maps, pairs_of(book.lands))
        return is_just(value.many, many) and does_for(value.tree, maps, many)
    told = next_of(maps)
    if isinstance(value, Known) and is_own(value, "Known"):
        return isinstance(told, Known) and isinstance(value.full, Map) and value.full == told.full
    if not isinstance(value, Asked) or not is_own(value, "Asked"):
        return False
    return isinstance(told, Asked) and is_just(value.parts, told.parts)


def does_for(tree, maps, most):
    """Whether any value is a plan of at most this length that does for these maps."""
    if isinstance(tree, Map):
        return len(maps) == 1 and tree == maps[0]
    if most == 0 or not isinstance(tree, tuple) or len(tree) != 3 or not isinstance(tree[2], tuple):
        return False
    for one, other in pairs_of(maps[0].lands):
        if is_just(tree[:2], (one, other)):
            return do_branches(tree[2], answers_of(maps, one, other), most - 1)
    return False


def do_branches(branches, answers, most):
    """Whether there is for each answer, in order, a pair of its word and of a plan for the maps that it leaves."""
    if len(branches) != len(answers):
        return False
    return all([is_branch(branch, word, left, most) for branch, (word, left) in zip(branches, answers)])


def is_branch(branch, word, left, most):
    """Whether any value is a pair of this word and of a plan for these maps."""
    if not isinstance(branch, tuple) or len(branch) != 2:
        return False
    return is_just(branch[0], word) and does_for(branch[1], left, most)
