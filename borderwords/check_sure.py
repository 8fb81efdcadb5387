"""Whether a value is a right paper of what is sure by a book, of the maps that it leaves, of what to ask."""

from borderwords.asking import Asked, Known, Plan, has_plan, next_of
from borderwords.books import require_book
from borderwords.brought import Breaks, Brought, Unbrought, require_bringing, unshown
from borderwords.check_possible import is_barred_of, is_kept_by
from borderwords.checks import WORDS, is_within, is_word, pairs_of, require_lands
from borderwords.fields import book_bits, borders_at, field_of, saying_bits, shown_by
from borderwords.left import OneMap, SeveralMaps, map_of_words, words_had
from borderwords.listed import require_few_lands_told, rows_left
from borderwords.maps import Map, map_of
from borderwords.papers import is_among, is_just, is_own
from borderwords.possible import possible_by
from borderwords.readings import read_book
from borderwords.sayings import require_saying
from borderwords.sure import Never, Open, Surely, require_room, sayings_against, sayings_for


def shows_asked(book, saying, value):
    """Whether any value is a right Surely, Never or Open of the saying by the book, which need not be possible."""
    require_book(book, "book")
    require_saying(saying, "saying")
    require_lands(saying.lands, book.lands)
    require_room(book)
    if isinstance(value, Surely) and is_own(value, "Surely"):
        return are_barreds(book, sayings_against(saying), value.papers)
    if isinstance(value, Never) and is_own(value, "Never"):
        return are_barreds(book, sayings_for(saying), value.papers)
    if not isinstance(value, Open) or not is_own(value, "Open"):
        return False
    if not is_kept_by(book, value.one) or not is_kept_by(book, value.other):
        return False
    return saying.is_kept(value.one) and not saying.is_kept(value.other)


def are_barreds(book, sayings, papers):
    """Whether there is, for each of these sayings, a right Barred of the book with this one behind."""
    if not isinstance(papers, tuple) or len(papers) != len(sayings):
        return False
    told = read_book(book)
    return all([is_barred_of(told.behind(saying), paper) for saying, paper in zip(sayings, papers)])


def shows_brought(book, saying, value):
    """Whether any value is a right Brought, Breaks or Unbrought of the saying by the book."""
    require_bringing(book, saying)
    require_room(book)
    field = field_of(book.lands)
    let, needed = book_bits(field, book)
    barred, its = saying_bits(field, saying, len(book))
    rows = [(need, unshown(let, needed, shown_by(field, bits))) for need, bits in its]
    if isinstance(value, Brought) and is_own(value, "Brought"):
        return (let & barred) == 0 and are_bringing(rows, value.needs)
    if isinstance(value, Breaks) and is_own(value, "Breaks"):
        return is_among(value.border, borders_at(field, let & barred))
    if not isinstance(value, Unbrought) or not is_own(value, "Unbrought"):
        return False
    return any([is_just(value.need, need) and are_apart(field, row, value.borders) for need, row in rows])


def are_bringing(rows, value):
    """Whether any value tells for each need of the saying a need of the book that brings it."""
    if not isinstance(value, tuple) or len(value) != len(rows):
        return False
    return all([is_among(told, [own for own, left in row if left == 0]) for told, (need, row) in zip(value, rows)])


def are_apart(field, row, value):
    """Whether any value tells for each need of the book one of the borders left for it."""
    if not isinstance(value, tuple) or len(value) != len(row):
        return False
    return all([is_among(border, borders_at(field, left)) for border, (own, left) in zip(value, row)])


def shows_told(book, value):
    """Whether any value is the OneMap of the book, or a right SeveralMaps of it."""
    require_book(book, "book")
    require_room(book)
    if isinstance(value, OneMap) and is_own(value, "OneMap"):
        return isinstance(value.full, Map) and is_only_map(book, value.full)
    if not isinstance(value, SeveralMaps) or not is_own(value, "SeveralMaps"):
        return False
    if not is_kept_by(book, value.one) or not is_kept_by(book, value.other):
        return False
    return map_of(value.one) != map_of(value.other)


def is_only_map(book, full):
    """Whether the book is possible and leaves just this map."""
    told = read_book(book)
    had = words_had(book, told)
    # A book that is not possible leaves no words.
    return all([len(words) == 1 for one, other, words in had]) and bool(possible_by(told)) and (
        full == map_of_words(book, had))


def shows_asking(book, value):
    """Whether any value is the Known or the Asked of the book, or a right Plan for the maps that it leaves."""
    require_few_lands_told(book)
    # Most values that are no right papers show it by themselves: the maps that are left are listed last.
    if isinstance(value, Plan) and is_own(value, "Plan"):
        return is_plan(book, value)
    if isinstance(value, Known) and is_own(value, "Known"):
        return is_map_of(book, value.full) and rows_left(book) == [value.full.words]
    if not isinstance(value, Asked) or not is_own(value, "Asked") or not is_asked_form(book, value):
        return False
    rows = rows_left(book)
    return len(rows) > 1 and is_just(value.parts, next_of(book.lands, rows).parts)


def is_map_of(book, value):
    """Whether any value is a map of the lands of the book."""
    return isinstance(value, Map) and value.lands == book.lands


def is_asked_form(book, paper):
    """Whether an Asked tells two lands of the book, and for each two lands a number, the least first for its own."""
    pairs = pairs_of(book.lands)
    most = paper.most
    if not isinstance(most, tuple) or len(most) != len(pairs):
        return False
    if not all([isinstance(row, tuple) and len(row) == 3 and is_just(row[:2], pair) and is_within(row[2], 1, None)
                for row, pair in zip(most, pairs)]):
        return False
    least = min([row[2] for row in most], default=0)
    return any([is_just((paper.one, paper.other), row[:2]) for row in most if row[2] == least][:1])


def is_plan(book, paper):
    """Whether a Plan is right."""
    pairs = pairs_of(book.lands)
    if not is_within(paper.many, 0, len(pairs)):
        return False
    leaves = []
    if not is_tree(pairs, paper.tree, [], paper.many, leaves):
        return False
    if not all([full.lands == book.lands for full in leaves]):
        return False
    rows = rows_left(book)
    # A plan whose maps each stand where its answers lead does for just these maps: no two of them are equal.
    if len(leaves) != len(rows) or set([full.words for full in leaves]) != set(rows):
        return False
    return paper.many == 0 or not has_plan(rows, list(range(len(pairs))), paper.many - 1)


def is_tree(pairs, tree, asked, most, leaves):
    """Whether any value is a plan of at most this length whose maps have what was answered to questions of these pairs.

    What was asked is two lands with a word each; the maps of the plan are put behind the leaves.
    """
    if isinstance(tree, Map):
        leaves.append(tree)
        return all([tree.table.get(pair) == word for pair, word in asked])
    if most == 0 or not isinstance(tree, tuple) or len(tree) != 3 or not isinstance(tree[2], tuple):
        return False
    if not is_among(tree[:2], pairs) or not are_branches(tree[2]):
        return False
    return all([is_tree(pairs, plan, asked + [(tree[:2], word)], most - 1, leaves) for word, plan in tree[2]])


def are_branches(value):
    """Whether any value is pairs, one at least, of a word and of what stands for it, in the order of WORDS."""
    if len(value) == 0 or not all([isinstance(row, tuple) and len(row) == 2 and is_word(row[0]) for row in value]):
        return False
    return [row[0] for row in value] == [word for word in WORDS if word in [row[0] for row in value]]
