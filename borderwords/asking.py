"""What to ask, so that of the maps that a book leaves just one is left."""

from borderwords.books import require_book
from borderwords.checks import WORDS, pairs_of
from borderwords.listed import maps_left
from borderwords.papers import Paper
from borderwords.possible import require_possible


class Known(Paper):
    """The only map that the book leaves."""

    def __init__(self, full):
        super().__init__("known", full)
        self.full = self.parts[0]


class Asked(Paper):
    """Two lands of which to ask, and for each two how many maps an answer leaves at most."""

    def __init__(self, one, other, most):
        super().__init__("asked", one, other, most)
        self.one, self.other, self.most = self.parts


class Plan(Paper):
    """A shortest plan that does for the maps that the book leaves, and its length."""

    def __init__(self, many, tree):
        super().__init__("plan", many, tree)
        self.many, self.tree = self.parts


def next_asked(book):
    """The Known if the book leaves one map, otherwise the Asked."""
    require_book(book, "book")
    require_possible(book)
    return next_of(maps_left(book))


def asking_plan(book):
    """A Plan for the maps that the book leaves."""
    require_book(book, "book")
    require_possible(book)
    maps = maps_left(book)
    many, tree = shortest_plan(maps, pairs_of(book.lands))
    return Plan(many, tree)


def next_of(maps):
    """The Known or the Asked for these maps, one at least."""
    if len(maps) == 1:
        return Known(maps[0])
    most = [(one, other, max([len(left) for word, left in answers_of(maps, one, other)]))
            for one, other in pairs_of(maps[0].lands)]
    least = min([row[2] for row in most])
    one, other, _ = [row for row in most if row[2] == least][0]
    return Asked(one, other, most)


def answers_of(maps, one, other):
    """The answers of two lands, in the order of WORDS, each with the list of the maps that it leaves."""
    left = {}
    for full in maps:
        left.setdefault(full.table[one, other], []).append(full)
    return [(word, left[word]) for word in WORDS if word in left]


def shortest_plan(maps, pairs):
    """The length of a shortest plan for these maps, and such a plan; these two lands each tell the maps apart."""
    if len(maps) == 1:
        return 0, maps[0]
    best, tree = None, None
    for at, (one, other) in enumerate(pairs):
        answers = answers_of(maps, one, other)
        # What is known is not asked: that would only make the plan longer.
        if len(answers) > 1:
            plans = [(word, shortest_plan(left, pairs[:at] + pairs[at + 1:])) for word, left in answers]
            many = 1 + max([plan[0] for word, plan in plans])
            if best is None or many < best:
                best, tree = many, (one, other, tuple([(word, plan[1]) for word, plan in plans]))
    return best, tree
