"""What to ask, so that of the maps that a book leaves just one is left."""

from borderwords.books import require_book
from borderwords.checks import WORDS, pairs_of
from borderwords.listed import MOST_LANDS, require_few_lands_told, rows_left
from borderwords.maps import Map
from borderwords.papers import Paper
from borderwords.possible import require_possible


class Known(Paper):
    """The only map that the book leaves."""

    def __init__(self, full):
        super().__init__("known", full)
        self.full = self.parts[0]


class Asked(Paper):
    """Two lands of which to ask, and for each two how many maps an answer leaves at most."""

    def __init__(self, one, other, most):
        super().__init__("asked", one, other, most)
        self.one, self.other, self.most = self.parts


class Plan(Paper):
    """A shortest plan that does for the maps that the book leaves, and its length."""

    def __init__(self, many, tree):
        super().__init__("plan", many, tree)
        self.many, self.tree = self.parts


def next_asked(book):
    """The Known if the book leaves one map, otherwise the Asked."""
    rows = rows_asked(book)
    return next_of(book.lands, rows)


def asking_plan(book):
    """A Plan for the maps that the book leaves."""
    rows = rows_asked(book)
    many, tree = shortest_plan(rows, list(range(len(rows[0]))))
    return Plan(many, tree_of(book.lands, tree))


def rows_asked(book):
    """The words of the maps that a possible book of few lands leaves; what the functions of this file raise."""
    require_book(book, "book")
    # What must be possible is so where some map is left: to ask this first is dear.
    if len(book.lands) > MOST_LANDS:
        require_possible(book)
    require_few_lands_told(book)
    rows = rows_left(book)
    if len(rows) == 0:
        require_possible(book)
    return rows


def next_of(lands, rows):
    """The Known or the Asked for the maps of these lands that have these words, one map at least."""
    if len(rows) == 1:
        return Known(Map(lands, rows[0]))
    most = [(one, other, most_left(rows, at)) for at, (one, other) in enumerate(pairs_of(lands))]
    least = min([row[2] for row in most])
    one, other, _ = [row for row in most if row[2] == least][0]
    return Asked(one, other, most)


def most_left(rows, at):
    """The greatest number of rows that have one and the same word at this place."""
    many = {}
    for row in rows:
        many[row[at]] = many.get(row[at], 0) + 1
    return max(list(many.values()))


def answers_of(rows, at):
    """The words at this place of the rows, in the order of WORDS, each with the list of the rows that have it."""
    left = {}
    for row in rows:
        left.setdefault(row[at], []).append(row)
    return [(word, left[word]) for word in WORDS if word in left]


def shortest_plan(rows, places):
    """The length of a shortest plan for maps told by their words, and such a plan.

    These places tell the rows apart. In the plan a question is a place, and a row stands for its map.
    """
    if len(rows) == 1:
        return 0, rows[0]
    best, tree = None, None
    for place in places:
        answers = answers_of(rows, place)
        # What is known is not asked: that would only make the plan longer. And none is shorter than one question.
        if len(answers) > 1 and best != 1:
            further = [at for at in places if at != place]
            plans = [(word, shortest_plan(left, further)) for word, left in answers]
            many = 1 + max([plan[0] for word, plan in plans])
            if best is None or many < best:
                best, tree = many, (place, tuple([(word, plan[1]) for word, plan in plans]))
    return best, tree


def has_plan(rows, places, most):
    """Whether a plan of at most this length, with questions at these places, does for maps told by their words."""
    if len(rows) == 1 or most == 0:
        return len(rows) == 1
    for place in places:
        further = [at for at in places if at != place]
        if is_asked_first(rows, place, further, most):
            return True
    return False


def is_asked_first(rows, place, further, most):
    """Whether such a plan may begin with a question at this place, the others being asked at further ones."""
    for _, left in answers_of(rows, place):
        if not has_plan(left, further, most - 1):
            return False
    return True


def tree_of(lands, tree):
    """The plan with the lands and the maps of these lands that its places and rows stand for."""
    if len(tree) == 2 and isinstance(tree[1], tuple):
        place, branches = tree
        one, other = pairs_of(lands)[place]
        return (one, other, tuple([(word, tree_of(lands, plan)) for word, plan in branches]))
    return Map(lands, tree)
