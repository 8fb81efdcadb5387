"""Books on one row, on few rows, and worlds made straight."""

import itertools

from borderwords.books import Book
from borderwords.check_rows import shows_fewest, shows_row
from borderwords.errors import BadBook, BadRegion, BadWorld, Impossible, NoLand, TooMany
from borderwords.onerow import FewestRows, NoRow, OneRow, fewest_rows, on_one_row, row_words
from borderwords.papers import Denial, Paper
from borderwords.possible import possible
from borderwords.regions import Land, Region
from borderwords.straight import straightened
from borderwords.worlds import World
from tests.support import (
    EIGHT, Case, book_read, chances, is_possible_by_definition, keeps_by_definition, needs_by_definition, odd_values,
    rows_of, some_plain_text, some_region_text, some_rows, some_saying_text, word_by_definition, world_keeps)
from tests.test_parts import ELEVEN, SPLIT, TEN, TWO, part_needs_by_definition, parts_by_definition
from tests.test_traces import NO_SINGLE

EITHER = ("abc", ["a deep c", "+ a b same c"])


def lot_lacks(lands, texts, size):
    """For each lot of so many parts the needs that it lacks, in order."""
    needs = [need for need, has in needs_by_definition(lands, texts)]
    had = [set(part_needs_by_definition(lands, texts, part)) for part in parts_by_definition(lands, texts)]
    return [[need for need in needs if not any(need in had[number] for number in lot)]
            for lot in itertools.combinations(range(len(had)), size)]


def fewest_by_definition(lands, texts):
    """How few rows do."""
    return [size for size in range(1, 20) if [] in lot_lacks(lands, texts, size)][0]


def some_texts(chance, lands, most):
    """Texts of sayings of one word, many of which make cells hang together no more."""
    if chance.random() < 0.4:
        return [some_saying_text(chance, lands, 1, 1) for _ in range(chance.randint(0, most))]
    made = {1: [], 2: ["+ a b", "- b a"], 3: ["+ a b", "- c a", "- c b", "+ b c"]}
    regions = [*lands, *made[len(lands)]]
    return [" ".join([chance.choice(regions), chance.choice(["deep", "apart", "same"]), chance.choice(regions)])
            for _ in range(chance.randint(1, most))]


class OnOneRow(Case):
    """on_one_row and row_words."""

    def right(self, lands, texts):
        book, lacks = book_read(lands, texts), lot_lacks(lands, texts, 1)
        paper = on_one_row(book)
        if [] in lacks:
            self.assertIs(type(paper), OneRow)
            self.assertTrue(world_keeps(paper.world, lands, texts), (texts, str(paper.world)))
            self.assertEqual(len(paper.world.rows), 1)
            self.assertLessEqual(len(paper.world), 1400)
        else:
            self.assertIs(type(paper), NoRow)
            self.assertEqual(paper.needs, tuple(row[0] for row in lacks), texts)
        self.assertEqual(on_one_row(book_read(lands, texts)), paper)
        self.assertIs(shows_row(book, paper), True)
        return bool(paper), bool(possible(book))

    def test_by_definition(self):
        chance = chances(341)
        met = []
        for lands in ("a", "ab", "abc"):
            for _ in range(50):
                met.append(self.right(lands, some_texts(chance, lands, 3)))
        self.assertEqual(set(met), {(True, True), (False, False)})
        self.assertEqual(self.right(*TWO), (False, True))

    def test_worlds_of_one_row(self):
        chance = chances(342)
        for _ in range(40):
            world = World(some_rows(chance, "abc", 1, 6))
            texts = [some_saying_text(chance, world.lands, 1, 1) for _ in range(15)]
            texts = [text for text in texts if keeps_by_definition(rows_of(world), text)][:5]
            self.assertEqual(self.right(world.lands, texts), (True, True))

    def test_possible_plain_books(self):
        chance = chances(343)
        for _ in range(40):
            texts = [some_plain_text(chance, "abcd") for _ in range(3)]
            self.assertEqual(len(set(self.right("abcd", texts))), 1)

    def test_edges(self):
        self.assertEqual(self.right("a", []), (True, True))
        self.assertEqual(on_one_row(Book.read("a : ! a")), NoRow([("land", "a")]))
        self.assertEqual(self.right("abcde", []), (True, True))
        self.assertEqual(self.right("abcde", [f"{one} overlaps {other}" for one, other in zip("abcda", "bcdee")] * 2),
                         (True, True))
        self.assertEqual(self.right(*ELEVEN), (False, True))
        self.assertEqual(self.right("ab", ["a deep b", "b deep a"]), (False, False))
        self.assertEqual(len(on_one_row(book=book_read(*ELEVEN)).needs), 11)

    def test_refused(self):
        for call in (on_one_row, fewest_rows, lambda book: shows_row(book, None), lambda book: shows_fewest(book, None)):
            for value in odd_values() + NO_SINGLE:
                self.refused(BadBook("book"), call, value)

    def test_papers(self):
        for kind, parts, fields, base in ((OneRow, ([1],), ["world"], Paper), (NoRow, ([1],), ["needs"], Denial),
                                          (FewestRows, ([1], [2]), ["world", "lacks"], Paper)):
            paper = kind(*parts)
            self.assertEqual((paper.word, kind.__bases__), (kind.__name__.lower(), (base,)))
            self.assertEqual(paper.parts, ((1,), (2,))[:len(parts)])
            self.assertEqual(tuple(getattr(paper, field) for field in fields), paper.parts)
            self.assertEqual(kind(**dict(zip(fields, parts))), paper)


class RowWords(Case):
    """row_words."""

    def right(self, lands, texts, x, y):
        wanted = tuple(word for word in EIGHT if [] in lot_lacks(lands, texts + [f"{x} {word} {y}"], 1))
        told = row_words(book_read(lands, texts), Region.read(x), Region.read(y))
        self.assertEqual(told, wanted, (texts, x, y))
        return told

    def test_by_definition(self):
        chance = chances(344)
        met = []
        for lands in ("a", "ab", "abc"):
            for _ in range(12):
                texts = some_texts(chance, lands, 2)
                met.append(self.right(lands, texts, *[some_region_text(chance, lands, 1) for _ in "xy"]))
        self.assertGreater(len(set(met)), 6)

    def test_books_of_several_parts(self):
        for texts in (["b deep c", "- c b deep c", "- c b apart a"], ["+ a b deep + b c", "- c b deep - c a"],
                      ["+ b c same + a b", "b deep + a b", "c deep + b c"]):
            self.assertEqual(len(parts_by_definition("abc", texts)), 2)
            self.assertTrue(on_one_row(book_read("abc", texts)))
            for pair in itertools.combinations("abc", 2):
                self.assertNotEqual(self.right("abc", texts, *pair), ())

    def test_fewer_than_on_several_rows(self):
        self.assertEqual(self.right(*EITHER, "a", "b"), ("meets", "overlaps", "deep"))
        texts = EITHER[1] + ["a apart b"]
        self.assertTrue(is_possible_by_definition("abc", texts))
        self.assertEqual(self.right(*TWO, "a", "c"), ())
        self.assertEqual(self.right("ab", [], "- a a", "b"), ())
        self.assertEqual(self.right("ab", ["a deep b", "b deep a"], "a", "b"), ())

    def test_ten_sayings(self):
        book = Book.read("a b : " + " / ".join(["a deep b"] * 10))
        self.assertEqual(row_words(book, Land("b"), Land("a")), ("holdsdeep",))
        self.assertEqual(row_words(other=Land("a"), one=Region.read("- b a"), book=book), ("meets",))

    def test_refused(self):
        book = book_read(*TWO)
        a, d = Land("a"), Region.read("* e d")
        for value in odd_values() + NO_SINGLE:
            self.refused(BadBook("book"), row_words, value, value, value)
        for value in odd_values() + ["a", book]:
            self.refused(BadRegion("one"), row_words, book, value, value)
            self.refused(BadRegion("other"), row_words, book, d, value)
        self.refused(NoLand("d"), row_words, book, d, Land("f"))
        self.refused(NoLand("f"), row_words, book, a, Region.read("+ a f"))


class Fewest(Case):
    """fewest_rows."""

    def right(self, lands, texts):
        book, paper = book_read(lands, texts), fewest_rows(book_read(lands, texts))
        many = fewest_by_definition(lands, texts)
        self.assertIs(type(paper), FewestRows)
        self.assertEqual(len(paper.world.rows), many)
        self.assertTrue(world_keeps(paper.world, lands, texts))
        self.assertLessEqual(len(paper.world), 1400)
        self.assertEqual(paper.lacks, tuple(row[0] for row in lot_lacks(lands, texts, many - 1)))
        self.assertEqual(fewest_rows(book), paper)
        self.assertIs(shows_fewest(book, paper), True)
        self.assertEqual(bool(on_one_row(book)), many == 1)
        return many

    def test_by_definition(self):
        chance = chances(345)
        met = []
        for lands in ("a", "ab", "abc"):
            for _ in range(60):
                texts = some_texts(chance, lands, 3)
                if is_possible_by_definition(lands, texts):
                    met.append(self.right(lands, texts))
        self.assertIn(1, met)

    def test_edges(self):
        self.assertEqual(self.right("a", []), 1)
        self.assertEqual(fewest_rows(book=Book(["b", "a"])).lacks, (("land", "a"),))
        self.assertEqual(self.right(*TWO), 2)
        self.assertEqual(self.right(*TEN), 3)
        self.assertEqual(self.right("abc", TWO[1] + ["* a c same a"]), 2)
        three = ["a deep d", "b deep d", "c deep d", "+ + a b c same d", "a apart b", "+ a b apart c"]
        self.assertEqual(self.right("abcd", three), 3)
        four = ["+ + a b c deep d", "a apart - d a", "b apart - d b", "c apart - d c", "! * a b", "! * + a b c"]
        self.assertEqual(self.right("abcd", four), 4)

    def test_refused(self):
        bad = Book.read("a b : a deep b / b deep a")
        self.refused(Impossible(possible(bad)), fewest_rows, bad)
        self.refused(TooMany("parts", 10), fewest_rows, book_read(*ELEVEN))
        self.refused(TooMany("parts", 10), fewest_rows, book_read("abcde", SPLIT))
        worse = book_read("abcde", SPLIT + ["! a"])
        self.assertEqual(len(parts_by_definition("abcde", SPLIT + ["! a"])), 8)
        self.refused(Impossible(possible(worse)), fewest_rows, worse)
        worst = book_read("abcde", SPLIT + ["a same b"] + ["a apart b"])
        self.assertFalse(possible(worst))
        wide = book_read("abcde", SPLIT + ["e deep a"])
        self.refused(Impossible(possible(wide)), fewest_rows, wide)
        self.refused(TooMany("parts", 10), shows_fewest, book_read(*ELEVEN), None)
        beyond = ("abcde", SPLIT + ["a overlaps e"])
        self.assertEqual(len(parts_by_definition(*beyond)), 16)
        self.refused(Impossible(possible(book_read(*beyond))), fewest_rows, book_read(*beyond))
        self.refused(TooMany("parts", 10), shows_fewest, book_read(*beyond), None)


class Straightened(Case):
    """straightened."""

    def right(self, world):
        told = straightened(world)
        self.assertIs(type(told), World)
        self.assertEqual((len(told.rows), told.lands), (1, world.lands))
        for one, other in itertools.combinations(world.lands, 2):
            self.assertEqual(word_by_definition(rows_of(told), one, other), word_by_definition(rows_of(world), one, other))
        self.assertLessEqual(len(told), 1400)
        self.assertEqual(straightened(World(world.rows)), told)

    def test_by_definition(self):
        chance = chances(346)
        for lands in ("a", "ab", "abc", "abcd", "abcde"):
            for _ in range(15):
                self.right(World(some_rows(chance, lands, 4, 4)))

    def test_edges(self):
        self.right(World.read("a"))
        self.right(World.read("a+c / b+c"))
        self.right(World.read("a / b / c / d / e"))
        self.right(World.read("a+b+c+d+e"))
        self.right(World.read("a+b+c+d+e b+c+d+e c+d+e d+e e"))
        self.assertEqual(len(straightened(world=World.read("a / b")).rows), 1)

    def test_refused(self):
        for value in odd_values() + ["a b", [[["a"]]], Book(["a"])]:
            self.refused(BadWorld("world"), straightened, value)
        self.refused(TooMany("lands", 5), straightened, World.read("a / b / c / d / e / f"))
        self.refused(TooMany("lands", 5), straightened, World.read("a+b+c+d+e+f+g"))
