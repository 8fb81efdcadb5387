"""What to ask, so that one map is left."""

import itertools

from borderwords.asking import Asked, Known, Plan, asking_plan, next_asked
from borderwords.books import Book
from borderwords.check_sure import shows_asking
from borderwords.errors import BadBook, Impossible, TooMany
from borderwords.listed import maps_left
from borderwords.maps import Map
from borderwords.papers import Denial, Paper
from borderwords.possible import possible
from tests.support import (
    EIGHT, Case, as_lists, below, bent, book_read, chances, is_exact, is_possible_by_definition, least_time, odd_values,
    some_saying_text)
from tests.test_sure import NO_BOOKS

FOUR_EACH = "a b c : a apart|meets|overlaps|deep b / b meets|overlaps|deep|rim c"
SLY = "a b c : a same|rim b / a overlaps|same|rim|holdsdeep c / b apart|deep|rim|holdsrim c"


def maps_by_definition(lands, texts):
    """The maps that the book leaves."""
    pairs = list(itertools.combinations(sorted(lands), 2))
    return [Map(list(lands), words) for words in itertools.product(EIGHT, repeat=len(pairs))
            if is_possible_by_definition(lands, texts + [f"{one} {word} {other}"
                                                         for (one, other), word in zip(pairs, words)])]


def split(maps, one, other):
    """The answers of some maps to a question: pairs of a word and of the maps with it."""
    rows = [(word, [full for full in maps if full.word(one, other) == word]) for word in EIGHT]
    return [(word, left) for word, left in rows if left]


def fewest_questions(maps):
    """The length of a shortest plan."""
    if len(maps) == 1:
        return 0
    found = []
    for one, other in itertools.combinations(maps[0].lands, 2):
        answers = split(maps, one, other)
        if len(answers) > 1:
            found.append(1 + max(fewest_questions(left) for word, left in answers))
    return min(found)


def length_of(tree, maps):
    """The length of a plan that does for these maps, None for what is none."""
    if isinstance(tree, Map):
        return 0 if [tree] == maps else None
    if not isinstance(tree, tuple) or len(tree) != 3 or not isinstance(tree[2], tuple) or not maps:
        return None
    questions = [pair for pair in itertools.combinations(maps[0].lands, 2) if is_exact(tree[:2], pair)]
    if not questions:
        return None
    answers = split(maps, *questions[0])
    if len(tree[2]) != len(answers):
        return None
    lengths = [length_of(branch[1], left) if isinstance(branch, tuple) and len(branch) == 2
               and is_exact(branch[0], word) else None for branch, (word, left) in zip(tree[2], answers)]
    return None if None in lengths else 1 + max(lengths)


def is_right(maps, value):
    """Whether a value is a right paper of a book that leaves these maps."""
    if not maps:
        return False
    if type(value) is Plan:
        many = length_of(value.tree, maps)
        return many is not None and many == fewest_questions(maps) and is_exact(value.many, many)
    return type(value) in (Known, Asked) and is_exact(value.parts, wanted_next(maps).parts)


def asked_in_turn(maps, pairs):
    """The plan that asks these two lands each, one behind the other; it takes the first map that is left."""
    if not pairs or not maps:
        return maps[0]
    answers = split(maps, *pairs[0])
    return pairs[0] + (tuple((word, asked_in_turn(left, pairs[1:])) for word, left in answers),)


def plans_of_two(maps):
    """Plans of two questions in each branch, the second one perhaps with a known answer."""
    pairs = list(itertools.combinations(maps[0].lands, 2))
    for first in pairs:
        answers = split(maps, *first)
        for seconds in itertools.product(pairs, repeat=len(answers)):
            yield first + (tuple((word, asked_in_turn(left, [second]))
                                 for (word, left), second in zip(answers, seconds)),)


def wanted_next(maps):
    """What next_asked is to tell of these maps."""
    if len(maps) == 1:
        return Known(maps[0])
    most = tuple((one, other, max(len(left) for word, left in split(maps, one, other)))
                 for one, other in itertools.combinations(maps[0].lands, 2))
    one, other, _ = min(most, key=lambda row: (row[2], row[:2]))
    return Asked(one, other, most)


class Asking(Case):
    """next_asked and asking_plan."""

    def right(self, book, maps):
        told, plan = next_asked(book), asking_plan(book)
        wanted = wanted_next(maps)
        self.assertIs(type(told), type(wanted))
        self.assertTrue(is_exact(told.parts, wanted.parts), str(book))
        self.assertIs(type(plan), Plan)
        self.assertTrue(is_right(maps, plan), str(book))
        self.assertEqual((next_asked(Book.read(str(book))), asking_plan(Book.read(str(book)))), (told, plan))
        self.assertIs(shows_asking(book, told), True)
        self.assertIs(shows_asking(book, plan), True)
        return plan.many

    def test_by_definition(self):
        chance = chances(231)
        met = []
        for lands, many in (("a", 6), ("ab", 40), ("abc", 8)):
            for _ in range(many):
                texts = [some_saying_text(chance, lands, 1, 4) for _ in range(chance.randint(1, 3))]
                if is_possible_by_definition(lands, texts):
                    met.append(self.right(book_read(lands, texts), maps_by_definition(lands, texts)))
        self.assertLessEqual({0, 1, 2}, set(met))

    def test_books_of_three_lands(self):
        chance = chances(232)
        met = []
        for _ in range(60):
            texts = [some_saying_text(chance, "abc", 1, 4) for _ in range(chance.randint(1, 3))]
            book = book_read("abc", texts)
            if possible(book):
                met.append(self.right(book, list(maps_left(book))))
        self.assertLessEqual({1, 2, 3}, set(met))

    def test_edges(self):
        self.assertEqual(next_asked(Book(["a"])), Known(Map(["a"], [])))
        self.assertEqual(asking_plan(book=Book(["a"])), Plan(0, Map(["a"], [])))
        two = Book(["a", "b"])
        self.assertEqual(next_asked(book=two), Asked("a", "b", [("a", "b", 1)]))
        self.assertEqual(asking_plan(two), Plan(1, ("a", "b", [(word, Map(["a", "b"], [word])) for word in EIGHT])))
        self.assertEqual(self.right(Book(["a", "b", "c"]), list(maps_left(Book(["a", "b", "c"])))), 3)
        ten = Book.read("a b : " + " / ".join(["a deep b"] * 10))
        self.assertEqual((next_asked(ten), asking_plan(ten)), (Known(Map.read("a b : deep")), Plan(0, Map.read("a b : deep"))))

    def test_the_question_that_leaves_fewest_need_not_begin(self):
        book = Book.read(SLY)
        maps = list(maps_left(book))
        self.assertEqual(next_asked(book).parts[:2], ("a", "c"))
        behind = [1 + max(fewest_questions(left) for word, left in split(maps, *pair)) for pair in
                  (("a", "c"), ("b", "c"))]
        self.assertEqual(behind, [3, 2])
        self.assertEqual(self.right(book, maps), 2)

    def test_refused(self):
        bad, four = Book.read("a b : a deep b / b deep a"), Book(["a", "b", "c", "d"])
        worst = Book.read("a b c d : a deep b / b deep a")
        for call in (next_asked, asking_plan, lambda book: shows_asking(book, None)):
            for value in odd_values() + NO_BOOKS:
                self.refused(BadBook("book"), call, value)
            self.refused(TooMany("lands", 3), call, four)
            self.refused(TooMany("lands", 3), call, Book(["a", "b", "c", "d", "e"]))
        for call in (next_asked, asking_plan):
            self.refused(Impossible(possible(bad)), call, bad)
            self.refused(Impossible(possible(worst)), call, worst)
        self.refused(TooMany("lands", 3), shows_asking, worst, None)

    def test_papers(self):
        for kind, parts, fields in ((Known, ([1],), ["full"]), (Asked, ("a", "b", [1]), ["one", "other", "most"]),
                                    (Plan, (1, [2]), ["many", "tree"])):
            paper = kind(*parts)
            self.assertEqual((paper.word, bool(paper), kind.__bases__), (kind.__name__.lower(), True, (Paper,)))
            self.assertEqual(paper.parts, tuple(tuple(part) if isinstance(part, list) else part for part in parts))
            self.assertEqual(tuple(getattr(paper, field) for field in fields), paper.parts)
            self.assertEqual(kind(**dict(zip(fields, parts))), paper)


class ShowsAsking(Case):
    """Which papers are right."""

    def agrees(self, book, value):
        maps = list(maps_left(book))
        wanted = is_right(maps, value)
        self.assertIs(shows_asking(book, value), wanted, (str(book), getattr(value, "parts", value)))
        return wanted

    def test_bent(self):
        for text in ("a :", "a b : a deep b", "a b : a deep|rim b", "a b c : a deep b / b meets c", SLY,
                     "a b c : a deep b / b deep|rim c", "a b : a deep b / b deep a"):
            book = Book.read(text)
            papers = [next_asked(book), asking_plan(book)] if possible(book) else [Known(Map.read("a b : deep"))]
            for paper in papers:
                self.assertEqual(self.agrees(book, paper), bool(possible(book)))
                for value in bent(paper):
                    self.agrees(book, value)
                self.assertEqual(self.agrees(book, type(paper)(*as_lists(paper.parts))), bool(possible(book)))
                self.assertFalse(self.agrees(book, below(paper)))

    def test_other_plans_that_do(self):
        book = Book.read("a b c : a same|deep b / b same|deep c")
        maps = list(maps_left(book))
        self.assertEqual(fewest_questions(maps), 2)
        ab, ac, bc = ("a", "b"), ("a", "c"), ("b", "c")
        rows = [(ab, bc), (bc, ab), (ab, ac), (ac, ab), (ac, bc), (bc, ac), (ab, bc, ac), (ab, ab, bc), (ab, ac, bc)]
        met = [self.agrees(book, Plan(many, asked_in_turn(maps, pairs)))
               for many in (1, 2, 3, True, None) for pairs in rows]
        self.assertGreaterEqual(met.count(True), 2)
        right = asked_in_turn(maps, (ab, bc))
        self.assertTrue(self.agrees(book, Plan(2, right)))
        self.assertFalse(self.agrees(book, Plan(2, ("b", "a") + right[2:])))

    def test_questions_whose_answer_is_known(self):
        book = Book.read("a b c : a deep b / b deep|rim c / a deep c")
        tree = asking_plan(book).tree
        self.assertFalse(self.agrees(book, Plan(2, ("a", "b", (("deep", tree),)))))
        # Such a question may stand where another branch is as long.
        sly = Book.read("a b : a same|deep b")
        self.assertFalse(self.agrees(sly, Plan(1, ("a", "b", (("same", Map(["a", "b"], ["same"])),)))))
        long = Book.read("a b c : a same|deep b / b same|deep c")
        maps = list(maps_left(long))
        met = []
        for tree in plans_of_two(maps):
            met.append(self.agrees(long, Plan(2, tree)))
        self.assertGreater(met.count(True), 2)

    def test_several_hundred_values(self):
        """Right plans, bent ones and other values of the book of an issue, that of no sayings, and one of made regions."""
        for text, most in ((FOUR_EACH, 500), ("a b c :", 60), ("a b c : + a b meets|deep c / a apart|deep|rim b", 150)):
            book = Book.read(text)
            maps = list(maps_left(book))
            plan, told = asking_plan(book), next_asked(book)
            pairs = list(itertools.combinations("abc", 2))
            values = [Plan(many, asked_in_turn(maps, order)) for order in itertools.permutations(pairs)
                      for many in (2, 3, 4)]
            values += [Plan(2, tree) for tree in itertools.islice(plans_of_two(maps), 40)]
            values += [Plan(many, tree) for many in (0, 1, 2, 3, 4, True, None) for tree in (plan.tree, 3, maps[0], ())]
            values += list(itertools.islice(bent(told), 60)) + [told, plan, below(plan), below(told), Known(maps[0])]
            rows = list(bent(plan))
            values += rows[:most // 4] + rows[most // 4::max(1, len(rows) // most)] + odd_values()
            met = [self.agrees(book, value) for value in values]
            self.assertGreater(met.count(True), 2)
            self.assertGreater(len(met), 200)

    def test_branches_for_answers_that_nobody_gives(self):
        """Whatever stands in a branch too many, the plan is none."""
        book = Book.read("a b : a deep|rim b")
        deep, rim = maps_left(book)
        branches = (("deep", deep), ("rim", rim))
        self.assertTrue(self.agrees(book, Plan(1, ("a", "b", branches))))
        for junk in (None, (), 3, deep, ("a", "b", ()), ("a", "c", branches), ("a", "b", branches), ("a", "b"), "ab",
                     ("a", "b", (("same", deep),)), ("a", "b", ((("same", None),),)), Map.read("a b : same")):
            for many in (1, 2):
                for at, word in ((0, "meets"), (1, "deep"), (2, "holdsdeep"), (2, "x")):
                    value = Plan(many, ("a", "b", branches[:at] + ((word, junk),) + branches[at:]))
                    self.assertFalse(self.agrees(book, value))

    def test_maps_of_other_lands(self):
        book = Book.read("a b : a deep b")
        away = Map.read("a c : deep")
        self.assertFalse(self.agrees(book, Plan(0, away)))
        self.assertFalse(self.agrees(book, Known(away)))
        self.assertTrue(self.agrees(book, Plan(0, Map.read("a b : deep"))))
        self.assertFalse(self.agrees(Book(["a"]), Plan(0, Map(["b"], []))))
        book = Book.read("a b : a deep|rim b")
        tree = ("a", "b", (("deep", Map.read("a b : deep")), ("rim", Map.read("a c : rim"))))
        self.assertFalse(self.agrees(book, Plan(1, tree)))

    def test_values_that_show_themselves_wrong_are_not_looked_at_long(self):
        """Sooner than the book is found possible, though 65 maps would be listed for a right plan."""
        book = Book.read(FOUR_EACH)
        wrong = [None, Plan(2, 3), Plan(2, asking_plan(book).tree[:2]), Asked("a", "b", ()), Known("a"), 3]
        spent = [least_time(lambda value=value: shows_asking(book, value)) for value in wrong]
        self.assertLess(max(spent), least_time(lambda: possible(book)))
        self.assertLess(least_time(lambda: next_asked(book)), 10 * least_time(lambda: possible(book)))

    def test_other_maps(self):
        several, known = Book.read("a b : a deep|rim b"), Book.read("a b : a deep b")
        for word in EIGHT:
            full = Map(["a", "b"], [word])
            self.assertIs(self.agrees(known, Known(full)), word == "deep")
            self.assertIs(self.agrees(known, Plan(0, full)), word == "deep")
            self.assertFalse(self.agrees(several, Known(full)))
            for other in EIGHT:
                tree = ("a", "b", (("deep", full), ("rim", Map(["a", "b"], [other]))))
                self.assertIs(self.agrees(several, Plan(1, tree)), (word, other) == ("deep", "rim"))
        self.assertFalse(self.agrees(known, Known(Map(["b", "c"], ["deep"]))))
        self.assertFalse(self.agrees(known, next_asked(several)))
        self.assertFalse(self.agrees(known, Asked("a", "b", [("a", "b", 1)])))

    def test_other_values(self):
        book, known = Book.read("a b : a deep|rim b"), Book.read("a b : a deep b")
        full = Map.read("a b : deep")
        for value in odd_values() + [book, full, Paper("known", full), Known, Denial("known", full)]:
            self.assertIs(shows_asking(book, value), False)
            self.assertIs(shows_asking(known, value), False)
            self.assertIs(shows_asking(book, Asked("a", "b", value)), False)
            self.assertIs(shows_asking(book, Plan(1, value)), False)
            self.assertIs(shows_asking(book, Plan(1, ("a", "b", value))), False)
            self.assertIs(shows_asking(book, Plan(value, asking_plan(book).tree)), False)
            self.assertIs(shows_asking(known, Plan(value, full)), False)
            self.assertIs(shows_asking(book, Known(value)), False)
        for value in odd_values() + [str(full), [full]]:
            self.assertIs(shows_asking(known, Known(value)), False)
        self.assertIs(shows_asking(value=Known(full), book=known), True)
