"""Maps."""

import itertools

from borderwords.books import Book
from borderwords.errors import BadBook, BadMap, BadText, BadWord, BadWorld, NoLand, TooMany, Twice
from borderwords.maps import Map, map_of
from borderwords.regions import Land
from borderwords.worlds import World
from tests.support import (
    EIGHT, LANDS, Case, chances, item_by_trying, items_changed, odd_values, rows_of, some_rows, word_by_definition)

TURNED = dict(zip(EIGHT, ("apart", "meets", "overlaps", "same", "holdsdeep", "holdsrim", "deep", "rim")))
TEN = [f"l{number}" for number in range(10)]
NO_PAIRS = ["ab", ["ab"], [("a",)], [("a", "b", "c")], [("a", 1)], [("a", "B")], ["a", "b"], [("A", "b")], [(1, "b")],
            ("a", "b"), {"a": "b"}, [{"a", "b"}]]


def some_map(chance, lands):
    """A map of these lands, and the word of each two, either way about."""
    words = {}
    for one, other in itertools.combinations(lands, 2):
        words[one, other] = chance.choice(EIGHT)
        words[other, one] = TURNED[words[one, other]]
    words.update({(land, land): "same" for land in lands})
    return Map(list(lands), [words[pair] for pair in itertools.combinations(lands, 2)]), words


class Making(Case):
    """What a map keeps, and what is refused."""

    def test_told_in_any_order(self):
        chance = chances(41)
        for many in (1, 2, 3, 5, 10):
            full, words = some_map(chance, TEN[:many])
            self.assertEqual(full.lands, tuple(TEN[:many]))
            self.assertEqual(full.words, tuple(words[pair] for pair in itertools.combinations(TEN[:many], 2)))
            for _ in range(5):
                lands = chance.sample(TEN[:many], many)
                again = Map(lands, [words[pair] for pair in itertools.combinations(lands, 2)])
                self.assertEqual(again, full)
                self.assertEqual((again.lands, again.words), (full.lands, full.words))
            for one, other in itertools.product(TEN[:many], repeat=2):
                self.assertEqual(full.word(one, other), words[one, other])

    def test_one_land(self):
        self.assertEqual((Map(["a"], []).words, Map(lands=("a",), words=()).lands), ((), ("a",)))

    def test_errors_in_order(self):
        for value in odd_values() + [[], (), "a", "ab", ["A"], ["a", 1], [["a"]], {"a": 1}, {"a"}, Land("a")]:
            self.refused(BadMap("lands"), Map, value, [])
            self.refused(BadMap("lands"), Map, value, value)
            self.refused(BadMap("lands"), Map, value, ["none"])
        for value in odd_values() + ["deep", ["Deep"], ["deep", 1], [["deep"]], {"deep": 1}, {"deep"}, ["nowhere"],
                                     ["deep", None]]:
            if value not in ([], ()):
                self.refused(BadWord("words"), Map, ["a", "b"], value)
                self.refused(Twice("b"), Map, ["a", "b", "b", "a"], value)
                self.refused(BadWord("words"), Map, TEN + ["l91"], value)
        for words in ([], ["deep"], ["deep"] * 2, ["deep"] * 4):
            self.refused(BadMap("words"), Map, ["a", "b", "c"], words)
        self.refused(BadMap("words"), Map, ["a"], ["same"])
        self.refused(BadMap("words"), Map, TEN + ["l91"], ["apart"] * 54)
        self.refused(BadWord("words"), Map, ["a", "b"], ["deep", "none"])
        self.refused(TooMany("lands", 10), Map, TEN + ["l91"], ["apart"] * 55)
        self.assertEqual(len(Map(TEN, ["apart"] * 45).words), 45)

    def test_what_is_passed_may_be_changed(self):
        lands, words = ["b", "a"], ["deep"]
        full = Map(lands, words)
        lands.append("c")
        words[0] = "rim"
        self.assertEqual(str(full), "a b : holdsdeep")


class Asking(Case):
    """Words, parts, new names."""

    def test_word_refused(self):
        full = Map(["a", "b"], ["deep"])
        for value in odd_values() + ["c", ["a"], Land("a")]:
            self.refused(NoLand(value), full.word, value, "a")
            self.refused(NoLand(value), full.word, value, value)
            self.refused(NoLand(value), full.word, "a", value)
        self.refused(NoLand("c"), full.word, "c", "d")
        self.assertEqual(full.word(other="a", one="b"), "holdsdeep")

    def test_part(self):
        chance = chances(42)
        full, words = some_map(chance, LANDS)
        for many in range(1, 6):
            for lands in itertools.permutations(LANDS, many):
                part = full.part(list(lands))
                self.assertEqual(part.lands, tuple(sorted(lands)))
                self.assertEqual(part.words, tuple(words[pair] for pair in itertools.combinations(sorted(lands), 2)))
        self.assertEqual(full.part(tuple(LANDS)), full)

    def test_part_refused(self):
        full = Map(["a", "b"], ["deep"])
        for value in (None, True, 1, "ab", "a", "", {"a": 1}, {"a"}, Land("a"), [], ()):
            self.refused(BadMap("lands"), full.part, value)
        for value in odd_values() + ["c", ["a"]]:
            self.refused(NoLand(value), full.part, ["a", "a", value, "d"])
        self.refused(Twice("b"), full.part, ["a", "b", "b", "a"])

    def test_renamed(self):
        full = Map.read("a b c : deep rim meets")
        self.assertEqual(str(full.renamed([])), str(full))
        self.assertEqual(str(full.renamed([("a", "z")])), "b c z : meets holdsdeep holdsrim")
        self.assertEqual(str(full.renamed((["a", "b"], ["b", "a"]))), "a b c : holdsdeep meets rim")
        self.assertEqual(str(full.renamed(pairs=[("a", "b"), ("b", "c"), ("c", "a")])), "a b c : holdsrim meets deep")

    def test_renamed_refused(self):
        full = Map.read("a b c : deep rim meets")
        for value in odd_values() + NO_PAIRS:
            if value not in ([], ()):
                self.refused(BadMap("pairs"), full.renamed, value)
        self.refused(BadMap("pairs"), full.renamed, [("x", "b"), ("a", "a", "a")])
        self.refused(NoLand("x"), full.renamed, [("a", "b"), ("a", "c"), ("x", "d"), ("y", "d")])
        self.refused(Twice("b"), full.renamed, [("a", "b"), ("b", "c"), ("b", "c"), ("a", "d")])
        self.refused(Twice("b"), full.renamed, [("a", "b")])
        self.refused(Twice("a"), full.renamed, [("c", "a")])
        self.refused(Twice("z"), full.renamed, [("c", "z"), ("b", "z")])


class Books(Case):
    """Maps as books, and books as maps."""

    def test_there_and_back(self):
        chance = chances(43)
        for many in range(1, 6):
            full, words = some_map(chance, LANDS[:many])
            book = full.as_book()
            told = [f"{one} {words[one, other]} {other}" for one, other in itertools.combinations(LANDS[:many], 2)]
            self.assertEqual([str(saying) for saying in book.sayings], told)
            self.assertEqual((book.lands, book.is_plain, book.is_single), (tuple(LANDS[:many]), True, True))
            self.assertEqual(Map.of(book), full)
            turned = [saying.turned() if chance.random() < 0.5 else saying for saying in book.sayings]
            self.assertEqual(Map.of(Book(book.lands, chance.sample(turned, len(turned)))), full)
        self.refused(TooMany("lands", 5), some_map(chance, TEN[:6])[0].as_book)
        self.refused(TooMany("lands", 5), some_map(chance, TEN)[0].as_book)

    def test_books_that_are_no_map(self):
        for value in odd_values() + ["a :", Map(["a"], []), ["a"]]:
            self.refused(BadBook("book"), Map.of, value)
        for text in ("a b :", "a b : a deep|rim b", "a b : ! a", "a b : + a b deep b", "a b : a deep b / a deep b",
                     "a b : a deep b / b holdsdeep a", "a : a same a", "a b : a same a", "a b : a deep b / a same a",
                     "a b c : a deep b / b deep c", "a b c : a deep b / b deep c / b deep c",
                     "a b c : a deep b / b deep c / a same a", "a b c : a deep b / b deep c / c holdsdeep b",
                     "a b : a deep b / ! a"):
            self.refused(BadBook("book"), Map.of, Book.read(text))
        self.assertEqual(Map.of(book=Book.read("a b : b deep a")), Map(["b", "a"], ["deep"]))
        self.assertEqual(Map.of(Book(["a"])), Map(["a"], []))


class MapOf(Case):
    """The map that a world has."""

    def test_by_definition(self):
        chance = chances(44)
        for lands in ("a", "ab", "abcd", TEN):
            for _ in range(15):
                world = World(some_rows(chance, lands))
                full = map_of(world)
                rows = rows_of(world)
                self.assertEqual(full.lands, world.lands)
                self.assertEqual(full.words, tuple(word_by_definition(rows, one, other)
                                                   for one, other in itertools.combinations(world.lands, 2)))
        self.assertEqual(str(map_of(world=World.read("a a+b / c"))), "a b c : holdsdeep apart apart")

    def test_refused(self):
        for value in odd_values() + ["a b", [[["a"]]], Map(["a"], [])]:
            self.refused(BadWorld("world"), map_of, value)


class Equality(Case):
    """Maps with the same lands and words are equal."""

    def test_equal(self):
        texts = ["a :", "b :", "a b : deep", "a b : rim", "a c : deep", "a b : holdsdeep", "a b c : deep deep deep"]
        for one, other in itertools.product(texts, texts):
            self.assertEqual(Map.read(one) == Map.read(other), one == other)
            self.assertEqual(Map.read(one) != Map.read(other), one != other)
        for value in ("a :", None, ("a",), 0, Book(["a"])):
            self.assertFalse(Map(["a"], []) == value)


class Texts(Case):
    """Texts of maps."""

    def test_there_and_back(self):
        chance = chances(45)
        for many in range(1, 11):
            full, _ = some_map(chance, TEN[:many])
            self.assertEqual(str(full), " ".join([*full.lands, ":", *full.words]))
            self.assertEqual(Map.read(str(full)), full)

    def test_no_string(self):
        for value in (None, 1, True, b"a :", ["a", ":"], Map(["a"], []), 1.5):
            self.refused(BadText(0, 0), Map.read, value)

    def test_what_cannot_stand(self):
        wrong = [("", 0), (":", 0), ("a", 1), ("a b", 2), ("b a :", 1), ("a a : same", 1), ("a : ", 2), ("a : same", 2),
                 ("a b :", 3), ("a b : ", 3), ("a b : deep rim", 4), ("a b : deep ", 4), ("a b c : deep rim", 6),
                 ("a b c : deep none rim", 5), ("a b c : deep  rim", 5), ("a  b : deep", 1), ("a b : Deep", 3),
                 ("a b : deep|rim", 3), ("a b deep", 3), ("a b : :", 3), ("a b c : deep rim meets apart", 7)]
        for text, item in wrong:
            self.refused(BadText(0, item), Map.read, text)
        self.refused(BadText(0, 10), Map.read, " ".join(TEN + ["l91", ":"]))
        self.refused(BadText(0, 10), Map.read, " ".join(TEN + ["l0", ":"]))
        self.refused(BadText(0, 11), Map.read, " ".join(TEN + [":"]))
        self.refused(BadText(0, 55), Map.read, " ".join(TEN + [":"] + ["apart"] * 44))
        self.refused(BadText(0, 56), Map.read, " ".join(TEN + [":"] + ["apart"] * 46))

    def test_changed_texts(self):
        for told in ("a b : deep", "a c d : deep rim meets", "b :"):
            for text in items_changed(told, ("a", ":", "deep", "none", "z")):
                item = item_by_trying(Map.read, text, (":", "deep", "apart"), 4)
                if item is None:
                    self.read_only(Map.read, text)
                elif len(text.split(" ")) < 5:
                    self.refused(BadText(0, item), Map.read, text)
