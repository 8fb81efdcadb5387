"""Whether a saying of a book is idle: told by the other sayings."""

from borderwords.books import require_book, require_number, require_plain_single
from borderwords.checks import turned_word
from borderwords.papers import Denial, Paper
from borderwords.possible import possible_by, require_possible_by
from borderwords.readings import read_book
from borderwords.sure import Never, Surely, asked_by
from borderwords.tables import words_by


class Idle(Paper):
    """The saying is idle: the Barreds that show it surely so by the others."""

    def __init__(self, papers):
        super().__init__("idle", papers)
        self.papers = self.parts[0]


class Needed(Denial):
    """A world that keeps all sayings of the book but this one."""

    def __init__(self, world):
        super().__init__("needed", world)
        self.world = self.parts[0]


def is_idle(book, number):
    """The Idle or the Needed of a saying of the book by its number."""
    require_book(book, "book")
    require_number(number, book)
    return idle_by(read_book(book), number, book.sayings[number])


def idle_by(told, number, saying):
    """As is_idle, of the readings of a book and of a saying of it."""
    rest = told.but(number)
    require_possible_by(rest)
    # With less than ten sayings in the rest there is room for what is asked against it.
    paper = asked_by(rest, saying)
    if isinstance(paper, Surely):
        return Idle(paper.papers)
    if isinstance(paper, Never):
        return Needed(possible_by(rest).world)
    return Needed(paper.other)


def idle_by_third(book, number):
    """The first land whose words with the two of a saying let just the word of the saying, None if there is none."""
    require_plain_single(book, "book")
    require_number(number, book)
    saying = book.sayings[number]
    one, other = saying.one.name, saying.other.name
    thirds = [land for land in book.lands if land not in (one, other)]
    for third in thirds:
        if leads_to(words_told_of(book, one, third), words_told_of(book, third, other), saying.words[0]):
            return third
    return None


def words_told_of(book, one, other):
    """The words of one land to another one that some Says of a plain book of one word tells, either way about."""
    found = []
    for saying in book.sayings:
        if (saying.one.name, saying.other.name) == (one, other):
            found.append(saying.words[0])
        if (saying.other.name, saying.one.name) == (one, other):
            found.append(turned_word(saying.words[0]))
    return found


def leads_to(words, further, word):
    """Whether one of these words and one of the further ones, one behind the other, let just this word."""
    return any([words_by(first, second) == (word,) for first in words for second in further])
