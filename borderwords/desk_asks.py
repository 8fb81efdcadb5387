"""What a desk answers to ask lines."""

from borderwords.alikes import alike
from borderwords.asking import Known, next_asked
from borderwords.bars import shortest
from borderwords.desk_lines import ASKS, numbers_text, read_among
from borderwords.idle import is_idle
from borderwords.limits import limit
from borderwords.listed import maps_left
from borderwords.looks import word_of
from borderwords.maps import Map, map_of
from borderwords.onerow import fewest_rows
from borderwords.possible import possible
from borderwords.quarrels import quarrels
from borderwords.shelves import require_names, require_shelf
from borderwords.sure import asked, strongest_of
from borderwords.together import together
from borderwords.vanish import limit_of_world


def names_told(shelf):
    """The names of all things."""
    return numbers_text(shelf.names)


def thing_shown(shelf, name):
    """The text of a thing."""
    return str(shelf.thing(name))


def possible_told(shelf, name):
    """Whether a book is possible."""
    return possible(shelf.book(name)).word


def rows_told(shelf, name):
    """On how many rows a book is possible."""
    return str(len(fewest_rows(shelf.book(name)).world.rows))


def saying_asked(shelf, name, saying):
    """Whether a saying is sure by a book."""
    return asked(shelf.book(name), saying).word


def words_told(shelf, name, one, other):
    """Which words two regions have by a book."""
    return " ".join(strongest_of(shelf.book(name), one, other))


def maps_counted(shelf, name):
    """How many maps a book leaves."""
    return str(len(maps_left(shelf.book(name))))


def question_told(shelf, name):
    """Which two lands to ask of."""
    paper = next_asked(shelf.book(name))
    return "known" if isinstance(paper, Known) else f"{paper.one} {paper.other}"


def idle_told(shelf, name):
    """Which sayings of a book are idle."""
    book = shelf.book(name)
    return numbers_text([number for number in range(len(book)) if is_idle(book, number)])


def quarrels_told(shelf, name):
    """Which lots of sayings of a book quarrel."""
    lots = quarrels(shelf.book(name))
    return " / ".join([numbers_text(lot) for lot in lots]) if len(lots) > 0 else "-"


def fit_told(shelf, one, other):
    """Whether two books are possible together."""
    paper = together(shelf.book(one), shelf.book(other))
    return "fits" if paper else " ".join(["parted", str(paper.which)] + [str(item) for item in paper.need])


def break_told(shelf, one, other):
    """Which saying of a book a world breaks first."""
    number = shelf.book(one).first_broken(shelf.world(other))
    return numbers_text([] if number is None else [number])


def word_told(shelf, name, one, other):
    """Which word two regions have in a world."""
    word = word_of(shelf.world(name), one, other)
    return "none" if word is None else word


def alike_told(shelf, one, other):
    """Whether two worlds say the same."""
    return alike(shelf.world(one), shelf.world(other)).word


def map_told_of(shelf, name):
    """Which map a world has."""
    return str(map_of(shelf.world(name)))


def limit_told(shelf, one, other):
    """Whether one world is a limit of another one."""
    return limit_of_world(shelf.world(one), shelf.world(other)).word


def leading_told(shelf, one, other):
    """Whether one map is a limit of another one."""
    return limit(Map.of(shelf.book(one)), Map.of(shelf.book(other))).word


def film_counted(shelf, one, other):
    """How many maps the shortest film from one map to another one has."""
    return str(len(shortest(Map.of(shelf.book(one)), Map.of(shelf.book(other))).maps))


ANSWERS = {
    "names": names_told,
    "show": thing_shown,
    "possible": possible_told,
    "rows": rows_told,
    "sure": saying_asked,
    "words": words_told,
    "left": maps_counted,
    "next": question_told,
    "idle": idle_told,
    "quarrels": quarrels_told,
    "fits": fit_told,
    "breaks": break_told,
    "look": word_told,
    "alike": alike_told,
    "map": map_told_of,
    "limit": limit_told,
    "leads": leading_told,
    "film": film_counted,
}


def answer_of(shelf, line):
    """The answer to an ask line."""
    require_shelf(shelf, "shelf")
    told = read_among(line, ASKS)
    require_names(shelf, told)
    answer = ANSWERS[told[0]]
    values = told[1:]
    return answer(shelf, *values)
