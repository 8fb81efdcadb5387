"""Whether books are possible."""

from borderwords.books import Book
from borderwords.check_possible import shows_possible
from borderwords.errors import BadBook
from borderwords.papers import Denial, Paper
from borderwords.possible import Barred, Kept, possible
from borderwords.sayings import Saying
from borderwords.worlds import World
from tests.support import (
    Case, below, book_text, chances, keeps_by_definition, lacks_by_definition, namesake, odd_values, rows_of,
    single_texts, some_plain_text, some_region_text, some_rows, some_saying_text, world_keeps)


def words_of(texts):
    """The words of sayings of one word with these texts."""
    return tuple(saying.words[0] for saying in map(Saying.read, texts) if hasattr(saying, "words"))


def kept_texts(chance, world, many):
    """The texts of so many sayings that the world keeps."""
    found = []
    while len(found) < many:
        text = some_saying_text(chance, world.lands, 2, 2)
        if keeps_by_definition(rows_of(world), text):
            found.append(text)
    return found


class Possible(Case):
    """Kept or Barred."""

    def right(self, lands, texts):
        """The paper for this book is right by the definitions; whether the book is possible."""
        book = Book.read(book_text(lands, texts))
        paper = possible(book)
        rows = [(words_of(row), lacks_by_definition(lands, row)) for row in single_texts(texts)]
        if paper:
            self.assertIs(type(paper), Kept)
            self.assertTrue(world_keeps(paper.world, lands, texts))
            self.assertTrue(any(not lacks for words, lacks in rows))
            self.assertLessEqual(len(paper.world), 1400)
        else:
            self.assertIs(type(paper), Barred)
            self.assertEqual(paper.rows, tuple((words, lacks[0]) for words, lacks in rows))
        self.assertEqual(possible(Book.read(book_text(lands, texts))), paper)
        self.assertIs(shows_possible(book, paper), True)
        return bool(paper)

    def test_by_definition(self):
        chance = chances(31)
        met = []
        for lands in ("a", "ab", "abc", "abcd"):
            for _ in range(40 if len(lands) < 4 else 8):
                texts = [some_saying_text(chance, lands, 2, 2) for _ in range(chance.randint(0, 4))]
                met.append(self.right(lands, texts))
        self.assertGreater(min(met.count(True), met.count(False)), 30)

    def test_plain_books(self):
        chance = chances(32)
        met = [self.right("abcd", [some_plain_text(chance, "abcd", 2) for _ in range(4)]) for _ in range(30)]
        self.assertGreater(min(met.count(True), met.count(False)), 5)

    def test_a_book_that_some_world_keeps_is_possible(self):
        chance = chances(33)
        for _ in range(60):
            world = World(some_rows(chance, "abcd"))
            texts = kept_texts(chance, world, 4)
            self.assertTrue(possible(Book.read(book_text(world.lands, texts))), (str(world), texts))

    def test_no_world_keeps_a_book_that_is_barred(self):
        chance = chances(34)
        worlds = [World(some_rows(chance, "ab", 2, 3)) for _ in range(200)]
        for _ in range(60):
            texts = [some_saying_text(chance, "ab", 1, 2) for _ in range(3)]
            if not possible(Book.read(book_text("ab", texts))):
                self.assertFalse(any(world_keeps(world, "ab", texts) for world in worlds), texts)

    def test_edges(self):
        self.assertTrue(self.right("a", []))
        self.assertTrue(self.right("abcde", []))
        self.assertFalse(self.right("a", ["! a"]))
        self.assertFalse(self.right("ab", ["! + a b"]))
        self.assertTrue(self.right("ab", ["! - a b"]))
        self.assertTrue(self.right("a", ["a same a"]))
        self.assertFalse(self.right("a", ["a deep a"]))
        self.assertFalse(self.right("a", ["a apart|meets|overlaps|deep|rim|holdsdeep|holdsrim a"]))
        self.assertFalse(self.right("a", ["- a a same - a a"]))
        self.assertTrue(self.right("ab", ["a deep b"] * 10))
        self.assertFalse(self.right("ab", ["a deep|rim b"] * 5 + ["b deep|rim a"]))
        self.assertTrue(self.right("abcde", [f"{one} overlaps {other}" for one, other in zip("abcda", "bcdee")]))
        self.assertTrue(self.right("abcde", ["a deep b", "b deep c", "c deep d", "d deep e"]))
        self.assertFalse(self.right("abcd", ["* * a b c overlaps * d + a b", "* a b apart * c d"]))
        self.assertTrue(self.right("abcd", ["* * a b c overlaps * d + a b", "! * - c d - a b"]))

    def test_sixty_four_choices(self):
        texts = ["a apart|meets b"] * 5 + ["b deep|rim a"]
        book = Book.read(book_text("ab", texts))
        self.assertEqual((book.choices, len(possible(book).rows)), (64, 64))
        self.assertFalse(self.right("ab", texts))

    def test_no_book(self):
        for value in odd_values() + ["a :", ["a"]]:
            self.refused(BadBook("book"), possible, value)
            self.refused(BadBook("book"), shows_possible, value, None)


class ShowsPossible(Case):
    """Which papers are right."""

    def test_kept(self):
        book = Book.read("a b : a deep|rim b")
        for text, right in (("a+b b", True), ("b a+b - a+b", True), ("a+b - / b", True), ("a b", False), ("a+b", False),
                            ("a+b b / c", False), ("b", False), ("a+b b c", False)):
            self.assertIs(shows_possible(book, Kept(World.read(text))), right, text)
        for value in odd_values() + ["a+b b", World.read("a+b b").rows, [World.read("a+b b")]]:
            self.assertIs(shows_possible(book, Kept(value)), False)
            self.assertIs(shows_possible(book, value), False)
        world = World.read("a+b b")
        for value in (Paper("kept", world), Denial("barred", ()), Barred(world), Barred([]), world, True):
            self.assertIs(shows_possible(book, value), False)

    def test_barred(self):
        book = Book.read("a b : a deep|rim b / ! * a b")
        rows = [[["deep"], ["land", "a"]], [["rim"], ["land", "a"]]]
        self.assertEqual(possible(book), Barred(rows))
        needs = [[need for need in lacks_by_definition("ab", row)] for row in single_texts(["a deep|rim b", "! * a b"])]
        for one in needs[0]:
            for other in needs[1]:
                self.assertIs(shows_possible(book, Barred([[("deep",), one], (["rim"], list(other))])), True)
        had = [("land", "b"), ("other", 0), ("beyond", 0)]
        self.assertFalse(set(had) & set(needs[0]))
        for need in had + [("edge", 0), ("one", False), ("one", 0.0), ("one", 1), "one", ("one",), ("one", 0, 0), None]:
            self.assertIs(shows_possible(book, Barred([[["deep"], need], rows[1]])), False, need)
        self.assertIs(shows_possible(book, Barred([rows[0], [["rim"], ["edge", 0]]])), True)

    def test_wrong_rows(self):
        book = Book.read("a b : a deep|rim b / ! * a b")
        rows = [[["deep"], ["land", "a"]], [["rim"], ["land", "a"]]]
        self.assertIs(shows_possible(book, Barred(rows)), True)
        for wrong in (rows[::-1], rows[:1], rows + rows[1:], [], rows[0], [rows], [rows[0], [["rim"]]],
                      [rows[0], [["rim"], ["land", "a"], None]], [rows[0], ["rim", ["land", "a"]]], [rows[0], None],
                      [rows[0], [["rim", "rim"], ["land", "a"]]], [rows[0], [["deep"], ["land", "a"]]],
                      [rows[0], [[], ["land", "a"]]], {0: rows[0], 1: rows[1]}, "rows", [rows[0], "ab"]):
            self.assertIs(shows_possible(book, Barred(wrong)), False, wrong)
        for value in odd_values():
            self.assertIs(shows_possible(book, Barred(value)), False)
            self.assertIs(shows_possible(book, Barred([rows[0], value])), False)
            self.assertIs(shows_possible(book, Barred([rows[0], [value, ["land", "a"]]])), False)
            self.assertIs(shows_possible(book, Barred([rows[0], [["rim"], value]])), False)
        possible_book = Book.read("a b : a deep b")
        self.assertIs(shows_possible(possible_book, Barred([[["deep"], ["land", "a"]]])), False)
        self.assertIs(shows_possible(Book(["a"]), Barred([[[], ["land", "a"]]])), False)
        self.assertIs(shows_possible(book=Book.read("a : ! a"), value=Barred([[(), ("land", "a")]])), True)

    def test_papers_of_classes_below(self):
        deep, round_about = Book.read("a b : a deep b"), Book.read("a b : a deep b / b deep a")
        for book, paper in ((deep, Kept(World.read("a+b / b"))), (deep, possible(deep)),
                            (round_about, Barred([[["deep", "deep"], ["beyond", 1]]])),
                            (round_about, possible(round_about))):
            self.assertIs(shows_possible(book, paper), True)
            self.assertIs(shows_possible(book, below(paper)), False)
            self.assertIs(shows_possible(book, below(below(paper))), False)
            self.assertIs(shows_possible(book, namesake(paper)), False)

    def test_true_is_no_number(self):
        book = Book.read("a b : ! a / a deep b")
        self.assertIs(shows_possible(book, Barred([[["deep"], ["one", 1]]])), True)
        self.assertIs(shows_possible(book, Barred([[["deep"], ["one", True]]])), False)

    def test_papers(self):
        world = World.read("a")
        self.assertEqual((Kept(world).word, Kept(world=world).parts, Kept(world).world), ("kept", (world,), world))
        barred = Barred([[["deep"], ["one", 0]]])
        self.assertEqual((barred.word, barred.rows), ("barred", ((("deep",), ("one", 0)),)))
        self.assertEqual((barred.parts, Barred(rows=barred.rows)), ((barred.rows,), barred))
        self.assertTrue(isinstance(barred, Denial) and not isinstance(Kept(world), Denial))


class RandomRegions(Case):
    """Nowheres and Says of regions that lie nowhere."""

    def test_nowhere_is_told_by_same(self):
        chance = chances(35)
        for _ in range(60):
            region = some_region_text(chance, "abc")
            first = some_saying_text(chance, "abc", 1, 1)
            nowhere = possible(Book.read(book_text("abc", [first, "! " + region])))
            somewhere = possible(Book.read(book_text("abc", [first, f"{region} same {region}"])))
            alone = possible(Book.read(book_text("abc", [first])))
            self.assertEqual(bool(alone), bool(nowhere) or bool(somewhere))
