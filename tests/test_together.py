"""Books that are possible together, and their papers."""

import itertools

from borderwords.books import Book
from borderwords.check_together import shows_chained, shows_together
from borderwords.errors import BadBook, Misfit, TooMany
from borderwords.papers import Denial, Paper
from borderwords.possible import Kept, possible
from borderwords.together import PartedBy, Together, chained, together
from borderwords.worlds import World
from tests.support import (
    Case, as_lists, below, bent, book_read, borders_in_order, chances, is_exact, is_possible_by_definition,
    keeps_by_definition, needs_by_definition, odd_values, rows_of, some_plain_text, some_rows, some_saying_text,
    told_by_definition)
from tests.test_traces import NO_SINGLE, let_of, part


def all_lands(rows):
    """All lands of pairs (lands, texts), ascending."""
    return "".join(sorted({land for lands, texts in rows for land in lands}))


def all_texts(rows):
    """All sayings of pairs (lands, texts)."""
    return [text for lands, texts in rows for text in texts]


def passed_by_definition(rows):
    """For each book of a chain, told as a pair (lands, texts), its passed borders."""
    left = [let_of(*row) for row in rows]
    for at, its in [(at, at - 1) for at in range(1, len(rows))] + [(at, at + 1) for at in range(len(rows) - 1)][::-1]:
        common = set(rows[at][0]) & set(rows[its][0])
        parts = {part(border, common) for border in left[its]}
        left[at] = [border for border in left[at] if part(border, common) in parts]
    return left


def parted_by_definition(rows):
    """The pairs of the place of a book and of a need of it that none of its passed borders has, in order."""
    found = []
    for which, ((lands, texts), passed) in enumerate(zip(rows, passed_by_definition(rows))):
        found.extend((which, need) for need, has in needs_by_definition(lands, texts)
                     if not any(has(p, q) for p, q in passed))
    return found


def keeps_all(world, rows):
    """Whether a value is a world of just all lands that keeps the books."""
    return (isinstance(world, World) and "".join(world.lands) == all_lands(rows)
            and all(keeps_by_definition(rows_of(world), text) for text in all_texts(rows)))


def is_right(rows, value):
    """Whether a value is a right paper by the definitions."""
    if type(value) is Together:
        return keeps_all(value.world, rows)
    return type(value) is PartedBy and any(is_exact(value.parts, one) for one in parted_by_definition(rows))


def some_book(chance, lands, most, depth=1):
    """A pair of lands and of texts of sayings of one word."""
    return lands, [some_saying_text(chance, lands, depth, 1) for _ in range(chance.randint(0, most))]


def kept_books(chance, chain, most, some_text=some_saying_text):
    """Pairs of lands and of texts of sayings of one word, such that some world keeps all of them."""
    while True:
        world = World(some_rows(chance, sorted(set("".join(chain))), 3, 5))
        if list(world.lands) == sorted(set("".join(chain))):
            found = []
            for lands in chain:
                texts = [some_text(chance, lands, 1, 1) for _ in range(15)]
                found.append((lands, [text for text in texts if keeps_by_definition(rows_of(world), text)][:most]))
            return found


class Two(Case):
    """together."""

    def right(self, one, other):
        rows, books = [one, other], [book_read(*one), book_read(*other)]
        paper = together(*books)
        parted = parted_by_definition(rows)
        fits = is_possible_by_definition(all_lands(rows), all_texts(rows))
        self.assertEqual(bool(paper), fits, rows)
        self.assertEqual(not parted, fits)
        if fits:
            self.assertIs(type(paper), Together)
            self.assertTrue(keeps_all(paper.world, rows), (rows, str(paper.world)))
            self.assertLessEqual(len(paper.world), 1400)
        else:
            self.assertIs(type(paper), PartedBy)
            self.assertTrue(is_exact(paper.parts, parted[0]), (rows, paper.parts))
        self.assertEqual(together(book_read(*one), book_read(*other)), paper)
        self.assertEqual(chained(books), paper)
        self.assertIs(shows_together(*books, paper), True)
        self.assertIs(shows_chained(books, paper), True)
        return bool(paper), bool(possible(books[0])) and bool(possible(books[1]))

    def test_by_definition(self):
        chance = chances(311)
        met = []
        for lands, its in (("a", "a"), ("ab", "ab"), ("ab", "bc"), ("ab", "ac"), ("ab", "cd"), ("abc", "bcd")):
            for _ in range(40):
                met.append(self.right(some_book(chance, lands, 2), some_book(chance, its, 2)))
        self.assertLessEqual({(True, True), (False, True), (False, False)}, set(met))

    def test_plain_books(self):
        chance = chances(312)
        met = []
        for lands, its in (("abc", "bcd"), ("abc", "abc"), ("ab", "bc"), ("abcd", "abcd"), ("abcd", "abe")):
            for _ in range(12):
                told = [(some, [some_plain_text(chance, some) for _ in range(2)]) for some in (lands, its)]
                met.append(self.right(*told))
        self.assertLessEqual({(True, True), (False, False)}, set(met))

    def test_edges(self):
        nested, turned = ("abcd", ["a deep b", "c deep d"]), ("abcd", ["b deep c", "d deep a"])
        self.assertEqual(self.right(nested, turned), (False, True))
        hole = ("ac", ["a deep c", "- c a apart a"])
        self.assertEqual(self.right(("ab", ["a meets b"]), hole), (False, True))
        self.assertEqual(self.right(hole, ("ab", ["a meets b"])), (False, True))
        self.assertEqual(together(book_read(*hole), Book.read("a b : a meets b")).parts, (1, ("touch", 0)))
        self.assertEqual(self.right(("a", []), ("b", [])), (True, True))
        self.assertEqual(self.right(("a", ["! a"]), ("b", [])), (False, False))
        self.assertEqual(together(Book(["a"]), Book.read("b : ! b")).parts, (1, ("land", "b")))
        self.assertEqual(together(Book(["b"]), Book.read("b : ! b")).parts, (0, ("land", "b")))
        self.assertEqual(self.right(("abc", ["a deep b"] * 10), ("abc", ["b holdsdeep a"] * 10)), (True, True))
        wide = together(Book(["a", "b", "c", "d", "e"]), Book(["f", "g", "h", "i", "j"]))
        self.assertEqual(wide.world.lands, tuple("abcdefghij"))

    def test_one_common_land(self):
        chance = chances(313)
        for _ in range(25):
            one, other = (book_read(lands, [some_plain_text(chance, lands) for _ in range(2)]) for lands in ("abc", "cde"))
            if possible(one) and possible(other):
                self.assertTrue(together(one, other), (str(one), str(other)))

    def test_worlds_agree(self):
        chance = chances(314)
        for _ in range(40):
            self.assertEqual(self.right(*kept_books(chance, ("abc", "bcd"), 3)), (True, True))

    def test_refused(self):
        book = Book.read("a b : a deep b")
        for call in (together, lambda one, other: shows_together(one, other, None)):
            for value in odd_values() + NO_SINGLE:
                self.refused(BadBook("one"), call, value, book)
                self.refused(BadBook("one"), call, value, value)
                self.refused(BadBook("other"), call, book, value)
        self.assertTrue(together(other=book, one=book))

    def test_papers(self):
        paper, denial = Together([1]), PartedBy(0, ["land", "a"])
        self.assertEqual((paper.word, paper.parts, paper.world, bool(paper)), ("together", ((1,),), (1,), True))
        self.assertEqual((denial.word, denial.parts, denial.which, denial.need, bool(denial)),
                         ("partedby", (0, ("land", "a")), 0, ("land", "a"), False))
        self.assertEqual((Together(world=(1,)), PartedBy(need=("land", "a"), which=0)), (paper, denial))
        self.assertEqual((Together.__bases__, PartedBy.__bases__), ((Paper,), (Denial,)))


class Chains(Case):
    """chained."""

    def right(self, rows):
        books = [book_read(*row) for row in rows]
        paper = chained(books)
        parted = parted_by_definition(rows)
        if len(all_lands(rows)) < 5:
            self.assertEqual(not parted, is_possible_by_definition(all_lands(rows), all_texts(rows)), rows)
        if parted:
            self.assertIs(type(paper), PartedBy)
            self.assertTrue(is_exact(paper.parts, parted[0]), (rows, paper.parts))
        else:
            self.assertIs(type(paper), Together)
            self.assertTrue(keeps_all(paper.world, rows), (rows, str(paper.world)))
            self.assertLessEqual(len(paper.world), 1400)
        self.assertEqual(chained(tuple(book_read(*row) for row in rows)), paper)
        self.assertIs(shows_chained(books, paper), True)
        return bool(paper)

    def test_by_definition(self):
        chance = chances(315)
        met = []
        for chain in (("ab", "bc", "cd"), ("ab", "abc", "bc"), ("a", "a", "ab"), ("ab", "c", "d"), ("abc", "bcd", "cd"),
                      ("ab", "b", "bc", "c", "cd", "d"), ("ab", "bc", "cd", "de", "ef", "fg")):
            for _ in range(8):
                met.append(self.right([some_book(chance, lands, 2 if len(chain) < 5 else 1) for lands in chain]))
                self.assertTrue(self.right(kept_books(chance, chain, 3)))
        self.assertGreater(met.count(False), 15)

    def test_passed_borders_are_parts_of_borders_that_all_let(self):
        chance = chances(316)
        for chain in (("ab", "bc", "cd"), ("abc", "bc", "cd"), ("ab", "abcd", "d")):
            for _ in range(6):
                rows = [some_book(chance, lands, 2) for lands in chain]
                let = told_by_definition("abcd", all_texts(rows))[0]
                whole = [border for place, border in enumerate(borders_in_order(tuple("abcd"))) if place in let]
                for (lands, texts), passed in zip(rows, passed_by_definition(rows)):
                    self.assertEqual({part(border, lands) for border in whole}, set(passed))

    def test_neighbours_together_and_not_all(self):
        rows = [("ab", ["a deep b"]), ("abcd", ["b deep c", "d deep a"]), ("cd", ["c deep d"])]
        self.assertTrue(together(book_read(*rows[0]), book_read(*rows[1])))
        self.assertTrue(together(book_read(*rows[1]), book_read(*rows[2])))
        self.assertTrue(together(book_read(*rows[0]), book_read(*rows[2])))
        self.assertFalse(self.right(rows))
        self.assertFalse(self.right(rows[::-1]))
        self.assertEqual(chained([book_read(*row) for row in rows]).parts, parted_by_definition(rows)[0])

    def test_plain_books_of_more_lands(self):
        chance = chances(317)
        met = []
        for _ in range(40):
            chain = ("abc", "bcd", "def")
            pairs = [chance.sample(lands, 2) for lands in chain]
            words = [chance.choice(["deep", "rim", "meets", "apart"]) for _ in chain]
            met.append(self.right([(lands, [f"{one} {word} {other}"])
                                   for lands, (one, other), word in zip(chain, pairs, words)]))
        self.assertIn(True, met)

    def test_edges(self):
        one = Book.read("a b : a deep b")
        self.assertTrue(chained([one] * 6))
        ten = [Book(["a", "b", "c", "d", "e"]), Book(["e", "f", "g", "h", "i"]), Book(["i", "j"])]
        self.assertEqual(chained(books=ten).world.lands, tuple("abcdefghij"))
        self.assertEqual(chained([one, Book(["c"]), Book.read("c d : d deep c / c deep d")]).parts, (2, ("beyond", 0)))

    def test_refused(self):
        one, two, c = Book.read("a b : a deep b"), Book.read("b c : b deep c"), Book(["c"])
        eleven = [Book(list("abcde")), Book(list("efghi")), Book(list("jk"))]
        for call in (chained, lambda books: shows_chained(books, None)):
            for value in odd_values() + NO_SINGLE + [one, [], [one], (two,), {0: one, 1: two}, "ab"]:
                self.refused(BadBook("books"), call, value)
            for value in odd_values() + NO_SINGLE:
                self.refused(BadBook("books"), call, [one, value])
                self.refused(BadBook("books"), call, [value, one, c])
            self.refused(Misfit("lands"), call, [one, c, one])
            self.refused(Misfit("lands"), call, [two, one, two])
            self.refused(Misfit("lands"), call, [one, Book(["a"]), two])
            self.refused(Misfit("lands"), call, [one, c] * 4)
            self.refused(Misfit("lands"), call, eleven + [Book(["a"])])
            self.refused(TooMany("books", 6), call, [one] * 7)
            self.refused(TooMany("books", 6), call, eleven + [Book(["k"])] * 4)
            self.refused(TooMany("lands", 10), call, eleven)
            self.refused(TooMany("lands", 10), call, eleven[:2] + [Book.read("j k : ! j")])


class ShowsTogether(Case):
    """Which papers are right."""

    def agrees(self, rows, value):
        wanted = is_right(rows, value)
        books = [book_read(*row) for row in rows]
        self.assertIs(shows_chained(books, value), wanted, (rows, getattr(value, "parts", value)))
        if len(rows) == 2:
            self.assertIs(shows_together(*books, value), wanted)
        return wanted

    def test_bent(self):
        chance = chances(318)
        met = []
        for _ in range(30):
            rows = [some_book(chance, lands, 2) for lands in chance.choice([("ab", "bc"), ("ab", "ab"), ("ab", "b", "bc")])]
            paper = chained([book_read(*row) for row in rows])
            self.assertTrue(self.agrees(rows, paper))
            for value in bent(paper):
                met.append((type(paper), self.agrees(rows, value)))
            self.assertTrue(self.agrees(rows, type(paper)(*as_lists(paper.parts))))
            self.assertFalse(self.agrees(rows, below(paper)))
        self.assertLessEqual({(Together, False), (PartedBy, False), (PartedBy, True)}, set(met))

    def test_all_needs(self):
        chance = chances(319)
        many = 0
        for _ in range(25):
            rows = [some_book(chance, lands, 2) for lands in ("ab", "bc", "c")]
            needs = {need for lands, texts in rows for need, has in needs_by_definition(lands, texts)}
            for which, need in itertools.product((-1, 0, 1, 2, 3, True, False, 0.0), sorted(needs, key=str)):
                many = many + self.agrees(rows, PartedBy(which, need))
        self.assertGreater(many, 50)

    def test_worlds(self):
        chance = chances(320)
        rows = [("ab", ["a meets b"]), ("bc", ["b rim c"])]
        worlds = [World(some_rows(chance, "abc", 2, 4)) for _ in range(60)]
        worlds += [World.read(text) for text in ("a b", "a b b+c c d", "b+c a", "b c", "a b+c c")]
        met = [self.agrees(rows, Together(world)) for world in worlds]
        self.assertGreater(met.count(False), 5)
        for text, right in (("a b+c c", True), ("c b+c a / c", True), ("a b b+c c", False), ("a b+c c d", False)):
            self.assertIs(self.agrees(rows, Together(World.read(text))), right, text)
        self.assertFalse(self.agrees(rows, PartedBy(0, ("land", "a"))))

    def test_other_values(self):
        one, other, bad = Book.read("a b : a deep b"), Book.read("b c : b deep c"), Book.read("b c : ! c")
        paper, denial = together(one, other), together(one, bad)
        for value in odd_values() + [one, Paper("together", paper.world), Denial("partedby", *denial.parts), Together,
                                     Kept(paper.world), paper.world, denial.parts]:
            for books in ((one, other), (one, bad)):
                self.assertIs(shows_together(*books, value), False)
                self.assertIs(shows_together(*books, PartedBy(1, value)), False)
                self.assertIs(shows_together(*books, PartedBy(value, ("land", "c"))), False)
            self.assertIs(shows_together(one, bad, Together(value)), False)
        for value in odd_values() + [one, str(paper.world), paper.world.rows]:
            self.assertIs(shows_together(one, other, Together(value)), False)
        self.assertEqual(denial.parts, (1, ("land", "c")))
        self.assertIs(shows_together(one, bad, PartedBy(True, ("land", "c"))), False)
        self.assertIs(shows_together(value=PartedBy(1, ["land", "c"]), other=bad, one=one), True)
        self.assertIs(shows_chained(value=paper, books=[one, other]), True)
