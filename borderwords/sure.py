"""Which sayings a book makes sure, which it bars, and which it leaves open."""

from borderwords.books import MOST_SAYINGS, require_book
from borderwords.checks import WORDS, require_lands
from borderwords.errors import BadSaying, TooMany
from borderwords.fields import at_bits, is_left, word_table
from borderwords.papers import Denial, Paper
from borderwords.possible import possible_by, require_possible_by
from borderwords.readings import read_book
from borderwords.regions import require_region
from borderwords.sayings import Nowhere, Says, require_saying


class Surely(Paper):
    """Each world that keeps the book keeps the saying: a Barred for each saying against it."""

    def __init__(self, papers):
        super().__init__("surely", papers)
        self.papers = self.parts[0]


class Never(Denial):
    """No world that keeps the book keeps the saying: a Barred for each way in which it could."""

    def __init__(self, papers):
        super().__init__("never", papers)
        self.papers = self.parts[0]


class Open(Paper):
    """Two worlds that keep the book; the first one keeps the saying, the second one does not."""

    def __init__(self, one, other):
        super().__init__("open", one, other)
        self.one, self.other = self.parts


def others(saying):
    """The Says of the same regions with the words that this one lacks."""
    if not isinstance(saying, Says):
        raise BadSaying("saying")
    return Says(saying.one, [word for word in WORDS if word not in saying.words], saying.other)


def asked(book, saying):
    """The Surely, the Never, or an Open of a saying by a possible book."""
    require_book(book, "book")
    require_saying(saying, "saying")
    require_lands(saying.lands, book.lands)
    told = read_book(book)
    require_possible_by(told)
    require_room(book)
    return asked_by(told, saying)


def asked_by(told, saying):
    """As asked, of the readings of a possible book with less than ten sayings."""
    against = papers_with(told, sayings_against(saying))
    if not against[-1]:
        return Surely(against)
    within = papers_with(told, sayings_for(saying))
    if not within[-1]:
        return Never(within)
    return Open(within[-1].world, against[-1].world)


def papers_with(told, sayings):
    """The papers of the book with each of these sayings behind, up to the first Kept."""
    papers = []
    for saying in sayings:
        papers.append(possible_by(told.behind(saying)))
        if papers[-1]:
            break
    return papers


def strongest_of(book, one, other):
    """The words that one region has to the other by the book, and "nowhere" if one of them may lie nowhere."""
    require_book(book, "book")
    require_region(one, "one")
    require_region(other, "other")
    require_lands(one.lands, book.lands)
    require_lands(other.lands, book.lands)
    told = read_book(book)
    require_possible_by(told)
    require_room(book)
    choices = told.possible_choices()
    table = word_table(told.field, one, other)
    words = [word for word in WORDS if is_left(choices, [table[word]])]
    if any([is_left(choices, [(at_bits(told.field.sides(region)), [])]) for region in [one, other]]):
        words.append("nowhere")
    return tuple(words)


def require_room(book):
    """Raise TooMany for a book that no saying can be put behind."""
    if len(book) == MOST_SAYINGS:
        raise TooMany("sayings", MOST_SAYINGS)


def sayings_against(saying):
    """The sayings of which just one is kept by each world that does not keep this one."""
    if not isinstance(saying, Says):
        return [Says(saying.region, ["same"], saying.region)]
    lacked = [Says(saying.one, [word], saying.other) for word in WORDS if word not in saying.words]
    return lacked + [Nowhere(saying.one), Nowhere(saying.other)]


def sayings_for(saying):
    """The sayings of which just one is kept by each world that keeps this one."""
    if not isinstance(saying, Says):
        return [saying]
    return [Says(saying.one, [word], saying.other) for word in saying.words]
