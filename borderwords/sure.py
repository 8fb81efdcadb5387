"""Which sayings a book makes sure, which it bars, and which it leaves open."""

from borderwords.books import MOST_SAYINGS, require_book
from borderwords.checks import WORDS, require_lands
from borderwords.errors import BadSaying, TooMany
from borderwords.fields import field_of, saying_bits
from borderwords.listed import choices_told, is_left
from borderwords.papers import Denial, Paper
from borderwords.possible import possible, require_possible
from borderwords.regions import require_region
from borderwords.sayings import Nowhere, Says, require_saying


class Surely(Paper):
    """Each world that keeps the book keeps the saying: a Barred for each saying against it."""

    def __init__(self, papers):
        super().__init__("surely", papers)
        self.papers = self.parts[0]


class Never(Denial):
    """No world that keeps the book keeps the saying: a Barred for each way in which it could."""

    def __init__(self, papers):
        super().__init__("never", papers)
        self.papers = self.parts[0]


class Open(Paper):
    """Two worlds that keep the book; the first one keeps the saying, the second one does not."""

    def __init__(self, one, other):
        super().__init__("open", one, other)
        self.one, self.other = self.parts


def others(saying):
    """The Says of the same regions with the words that this one lacks."""
    if not isinstance(saying, Says):
        raise BadSaying("saying")
    return Says(saying.one, [word for word in WORDS if word not in saying.words], saying.other)


def asked(book, saying):
    """The Surely, the Never, or an Open of a saying by a possible book."""
    require_book(book, "book")
    require_saying(saying, "saying")
    require_lands(saying.lands, book.lands)
    require_possible(book)
    require_room(book)
    against = [possible(book.with_saying(one)) for one in sayings_against(saying)]
    lacking = [paper for paper in against if paper]
    if len(lacking) == 0:
        return Surely(against)
    within = [possible(book.with_saying(one)) for one in sayings_for(saying)]
    having = [paper for paper in within if paper]
    if len(having) == 0:
        return Never(within)
    return Open(having[0].world, lacking[0].world)


def strongest_of(book, one, other):
    """The words that one region has to the other by the book, and "nowhere" if one of them may lie nowhere."""
    require_book(book, "book")
    require_region(one, "one")
    require_region(other, "other")
    require_lands(one.lands, book.lands)
    require_lands(other.lands, book.lands)
    require_possible(book)
    require_room(book)
    field = field_of(book.lands)
    choices = choices_told(field, book)
    words = [word for word in WORDS if is_left(choices, [saying_bits(field, Says(one, [word], other), 0)])]
    if any([is_left(choices, [saying_bits(field, Nowhere(region), 0)]) for region in [one, other]]):
        words.append("nowhere")
    return tuple(words)


def require_room(book):
    """Raise TooMany for a book that no saying can be put behind."""
    if len(book) == MOST_SAYINGS:
        raise TooMany("sayings", MOST_SAYINGS)


def sayings_against(saying):
    """The sayings of which just one is kept by each world that does not keep this one."""
    if not isinstance(saying, Says):
        return [Says(saying.region, ["same"], saying.region)]
    lacked = [Says(saying.one, [word], saying.other) for word in WORDS if word not in saying.words]
    return lacked + [Nowhere(saying.one), Nowhere(saying.other)]


def sayings_for(saying):
    """The sayings of which just one is kept by each world that keeps this one."""
    if not isinstance(saying, Says):
        return [saying]
    return [Says(saying.one, [word], saying.other) for word in saying.words]
