"""Maps joined, words across maps and books, and two lands that part books."""

import itertools

from borderwords.books import Book
from borderwords.check_together import shows_pair
from borderwords.closing import strongest
from borderwords.errors import BadBook, BadMap, BadRegion, Impossible, Misfit, NoLand, TooMany
from borderwords.joined import Pair, joined, parting_pair, words_across, words_beside
from borderwords.maps import Map, map_of
from borderwords.papers import Denial
from borderwords.possible import possible
from borderwords.regions import Land, Region
from borderwords.tables import by_threes
from borderwords.together import together
from borderwords.worlds import World
from tests.support import (
    EIGHT, Case, as_lists, below, bent, book_read, chances, is_exact, is_possible_by_definition, odd_values, rows_of,
    some_plain_text, some_region_text, some_rows, word_by_definition)
from tests.test_together import some_book
from tests.test_traces import NO_SINGLE

NO_MAPS = ["a :", World.read("a"), Book(["a"])]
NO_PLAIN = NO_SINGLE + [Book.read("a b : ! a"), Book.read("a b : + a b deep b")]


def map_texts(full):
    """The texts of the sayings of a map."""
    return [f"{one} {word} {other}" for (one, other), word in zip(itertools.combinations(full.lands, 2), full.words)]


def some_map(chance, lands, cells=4):
    """A map of just these lands that some world has."""
    while True:
        world = World(some_rows(chance, lands, 3, cells))
        if world.lands == tuple(sorted(lands)):
            return map_of(world)


def fitting_maps(chance, lands, its):
    """Two possible maps that have the same words for common lands, of worlds of their own where they can be."""
    while True:
        one, other = some_map(chance, lands, 3), some_map(chance, its, 3)
        common = sorted(set(lands) & set(its))
        if not common or one.part(common) == other.part(common):
            return one, other


class Joined(Case):
    """joined."""

    def right(self, one, other):
        world = joined(one, other)
        self.assertIs(type(world), World)
        self.assertEqual(world.lands, tuple(sorted({*one.lands, *other.lands})))
        rows = rows_of(world)
        for full in (one, other):
            words = tuple(word_by_definition(rows, *pair) for pair in itertools.combinations(full.lands, 2))
            self.assertEqual(words, full.words, (str(one), str(other), str(world)))
        self.assertLessEqual(len(world), 1400)
        self.assertEqual(joined(Map(one.lands, one.words), other), world)

    def test_by_definition(self):
        chance = chances(321)
        for lands, its in (("a", "a"), ("a", "b"), ("ab", "bc"), ("ab", "cd"), ("abc", "cd"), ("abc", "bcd"), ("abc", "abc"),
                           ("abcd", "bcde"), ("abcd", "d"), ("abc", "def")):
            for _ in range(15):
                one, other = fitting_maps(chance, lands, its)
                self.right(one, other)
                self.right(other, one)

    def test_all_small_maps(self):
        for word, its in itertools.product(EIGHT, repeat=2):
            self.right(Map(["a", "b"], [word]), Map(["b", "c"], [its]))
            self.right(Map(["b", "a"], [word]), Map(["c", "b"], [its]))

    def test_nested_lands(self):
        lands = [f"l{number}" for number in range(10)]
        for word in ("deep", "rim", "same"):
            full = Map(lands, [word] * 45)
            self.right(full.part(lands[::2] + lands[1:2]), full.part(lands[1::2]))
            self.right(full, full)
            self.right(full.part(lands[:6]), full.part(lands[4:]))

    def test_ten_lands(self):
        chance = chances(322)
        for _ in range(5):
            self.right(some_map(chance, "abcde", 6), some_map(chance, "fghij", 6))
        whole = some_map(chance, "abcdefghij", 6)
        self.right(whole.part(list("abcdefg")), whole.part(list("efghij")))
        self.right(whole, whole)

    def test_refused(self):
        full, bad = Map.read("a b : deep"), Map.read("a b c : deep deep apart")
        self.assertFalse(by_threes(bad))
        for value in odd_values() + NO_MAPS:
            self.refused(BadMap("one"), joined, value, full)
            self.refused(BadMap("one"), joined, value, value)
            self.refused(BadMap("other"), joined, bad, value)
        self.refused(Misfit("words"), joined, full, Map.read("a b : rim"))
        self.refused(Misfit("words"), joined, bad, Map.read("b c : meets"))
        self.refused(Impossible(by_threes(bad)), joined, bad, Map.read("b c : apart"))
        worse = Map.read("b c d : apart same same")
        self.refused(Impossible(by_threes(bad)), joined, bad, worse)
        self.refused(Impossible(by_threes(worse)), joined, worse, bad)
        self.refused(Impossible(by_threes(worse)), joined, full, worse)
        many = [Map(list(lands), ["apart"] * 15) for lands in ("abcdef", "ghijkl", "fghijk")]
        self.refused(TooMany("lands", 10), joined, many[0], many[1])
        self.refused(TooMany("lands", 10), joined, many[0], many[2])
        wide = Map(list("defghijklm"), ["apart"] * 45)
        self.refused(TooMany("lands", 10), joined, full, wide)
        self.refused(Impossible(by_threes(bad)), joined, bad, wide)
        self.assertEqual(joined(other=full, one=full).lands, ("a", "b"))


class WordsBeside(Case):
    """words_beside."""

    def right(self, one, other):
        for land, its in itertools.product(one.lands, other.lands):
            lands = sorted({*one.lands, *other.lands})
            texts = map_texts(one) + map_texts(other)
            wanted = tuple(word for word in EIGHT if is_possible_by_definition(lands, texts + [f"{land} {word} {its}"]))
            self.assertEqual(words_beside(one, other, land, its), wanted, (str(one), str(other), land, its))

    def test_by_definition(self):
        chance = chances(323)
        for lands, its in (("a", "a"), ("a", "b"), ("ab", "bc"), ("ab", "ab"), ("ab", "cd"), ("abc", "cd"), ("abc", "bcd")):
            for _ in range(6):
                self.right(*fitting_maps(chance, lands, its))

    def test_edges(self):
        lands = [f"l{number}" for number in range(10)]
        full = Map(lands, ["deep"] * 45)
        self.assertEqual(words_beside(full, Map(lands[9:] + ["z"], ["rim"]), "l0", "z"), ("deep",))
        self.assertEqual(words_beside(full, full, "l3", "l3"), ("same",))
        self.assertEqual(words_beside(full, full, "l3", "l2"), ("holdsdeep",))
        many = Map(["z", "y"], ["rim"])
        self.assertEqual(words_beside(land="l0", its="y", one=full, other=many), EIGHT)

    def test_refused(self):
        full, bad = Map.read("a b : deep"), Map.read("a b c : deep deep apart")
        for value in odd_values() + NO_MAPS:
            self.refused(BadMap("one"), words_beside, value, value, None, None)
            self.refused(BadMap("other"), words_beside, bad, value, None, None)
        for value in odd_values() + ["c", Land("a"), ["a"]]:
            self.refused(NoLand(value), words_beside, full, Map.read("a b : rim"), value, "z")
            self.refused(NoLand(value), words_beside, full, Map.read("a b : rim"), "a", value)
        self.refused(NoLand("a"), words_beside, full, Map.read("b c : rim"), "b", "a")
        self.refused(Misfit("words"), words_beside, bad, Map.read("a b : rim"), "a", "a")
        self.refused(Impossible(by_threes(bad)), words_beside, full, bad, "a", "c")
        self.refused(Impossible(by_threes(bad)), words_beside, bad, full, "a", "b")


class WordsAcross(Case):
    """words_across."""

    def right(self, one, other, x, y):
        lands, texts = sorted(set(one[0] + other[0])), one[1] + other[1]
        wanted = tuple(word for word in EIGHT if is_possible_by_definition(lands, texts + [f"{x} {word} {y}"]))
        told = words_across(book_read(*one), book_read(*other), Region.read(x), Region.read(y))
        self.assertEqual(told, wanted, (one, other, x, y))
        return told

    def test_by_definition(self):
        chance = chances(324)
        met = []
        for lands, its in (("a", "a"), ("a", "b"), ("ab", "ab"), ("ab", "bc"), ("ab", "cd"), ("abc", "bcd")):
            for _ in range(60):
                one, other = some_book(chance, lands, 1), some_book(chance, its, 1)
                if is_possible_by_definition(sorted(set(lands + its)), one[1] + other[1]):
                    x, y = some_region_text(chance, lands), some_region_text(chance, its)
                    met.append(self.right(one, other, x, y))
                    met.append(self.right(one, other, chance.choice(lands), chance.choice(its)))
        self.assertGreater(len(set(met)), 15)

    def test_edges(self):
        hole, touching = ("ac", ["a deep c", "- c a apart a"]), ("ab", [])
        self.assertEqual(self.right(hole, touching, "a", "b"), ("apart", "overlaps", "same", "deep", "holdsdeep"))
        self.assertEqual(self.right(("ab", ["a apart b"]), ("bc", []), "* a b", "c"), ())
        self.assertEqual(self.right(("ab", []), ("bc", []), "a", "- b b"), ())
        self.assertEqual(self.right(("ab", []), ("ab", []), "+ a b", "+ b a"), ("same",))
        book = Book.read("a b c d e : " + " / ".join(["a deep b"] * 10))
        self.assertEqual(words_across(book, Book(list("bfghi")), Land("a"), Land("b")), ("deep",))
        self.assertEqual(words_across(region=Land("a"), its=Land("f"), one=book, other=Book(list("bfghi"))), EIGHT)

    def test_refused(self):
        book, bad = Book.read("a b : a deep b"), Book.read("b c : ! c")
        a, z = Land("a"), Region.read("* z y")
        for value in odd_values() + NO_SINGLE:
            self.refused(BadBook("one"), words_across, value, value, None, None)
            self.refused(BadBook("other"), words_across, book, value, None, None)
        for value in odd_values() + ["a", book]:
            self.refused(BadRegion("region"), words_across, book, bad, value, value)
            self.refused(BadRegion("its"), words_across, book, bad, z, value)
        self.refused(NoLand("y"), words_across, book, bad, z, a)
        self.refused(NoLand("a"), words_across, book, bad, a, Region.read("+ b a"))
        self.refused(NoLand("c"), words_across, book, bad, Land("c"), z)
        self.refused(Impossible(together(book, bad)), words_across, book, bad, a, Land("b"))
        self.refused(Impossible(together(bad, book)), words_across, bad, book, Land("c"), a)
        ten = Book.read("a b : " + " / ".join(["a deep b"] * 10))
        self.assertEqual(words_across(ten, ten, a, Land("b")), ("deep",))


def pairs_by_definition(one, other):
    """The pairs that part two books, told as pairs (lands, texts), in order."""
    if not is_possible_by_definition(*one) or not is_possible_by_definition(*other):
        return []
    found = []
    for x, y in itertools.combinations(sorted(set(one[0]) & set(other[0])), 2):
        words = [tuple(word for word in EIGHT if is_possible_by_definition(lands, texts + [f"{x} {word} {y}"]))
                 for lands, texts in (one, other)]
        if not set(words[0]) & set(words[1]):
            found.append((x, y, words[0], words[1]))
    return found


def some_plain(chance, lands, many):
    """A pair of lands and of texts of plain sayings of one word."""
    return lands, [some_plain_text(chance, lands) for _ in range(many)]


class PartingPair(Case):
    """parting_pair and shows_pair."""

    def right(self, one, other):
        books = [book_read(*one), book_read(*other)]
        told, wanted = parting_pair(*books), pairs_by_definition(one, other)
        if not wanted:
            self.assertIsNone(told)
        else:
            self.assertIs(type(told), Pair)
            self.assertTrue(is_exact(told.parts, wanted[0]))
            self.assertIs(shows_pair(*books, told), True)
            self.assertEqual(parting_pair(*books), told)
        self.assertEqual(told is None, bool(together(*books)), (one, other))
        return told

    def test_by_definition(self):
        chance = chances(325)
        met = []
        for lands, its in (("ab", "ab"), ("abc", "abc"), ("abc", "bcd"), ("ab", "bc"), ("abc", "abcd"), ("ab", "cd")):
            for _ in range(40):
                one, other = some_plain(chance, lands, 2), some_plain(chance, its, 2)
                if is_possible_by_definition(*one) and is_possible_by_definition(*other):
                    met.append(self.right(one, other) is None)
        self.assertGreater(min(met.count(True), met.count(False)), 5)

    def test_edges(self):
        self.assertIsNone(self.right(("a", []), ("a", [])))
        one, other = ("abc", ["a deep b", "b deep c"]), ("abc", ["a apart b", "a apart c"])
        self.assertEqual(self.right(one, other).parts, ("a", "b", ("deep",), ("apart",)))
        self.assertEqual(self.right(other, one).parts, ("a", "b", ("apart",), ("deep",)))
        nested, turned = Book.read("a b c d : a deep b / c deep d"), Book.read("a b c d : b deep c / d deep a")
        self.refused(TooMany("lands", 3), parting_pair, nested, turned)
        self.assertFalse(together(nested, turned))
        self.assertEqual({(one, other) for one, other, words in strongest(nested)},
                         {(one, other) for one, other, words in strongest(turned)})

    def test_refused(self):
        book, bad = Book.read("a b : a deep b"), Book.read("a b c : a deep b / b deep a")
        for call in (parting_pair, lambda one, other: shows_pair(one, other, None)):
            for value in odd_values() + NO_PLAIN:
                self.refused(BadBook("one"), call, value, value)
                self.refused(BadBook("other"), call, bad, value)
            self.refused(TooMany("lands", 3), call, Book(list("abcd")), Book(list("abcde")))
        worse = Book.read("a b c d : a deep a")
        for one, other, wrong in ((bad, book, bad), (book, bad, bad), (bad, worse, bad), (worse, bad, worse),
                                  (worse, Book(list("abcd")), worse), (Book(list("abcd")), worse, worse)):
            self.refused(Impossible(possible(wrong)), parting_pair, one, other)
        self.refused(TooMany("lands", 3), shows_pair, worse, Book(list("abcd")), None)
        self.assertIs(shows_pair(bad, worse, None), False)
        self.assertIsNone(parting_pair(other=book, one=book))

    def test_paper(self):
        paper = Pair("a", "b", ["deep"], ["rim"])
        self.assertEqual((paper.word, paper.parts, bool(paper)), ("pair", ("a", "b", ("deep",), ("rim",)), False))
        self.assertEqual((paper.one, paper.other, paper.words, paper.its), paper.parts)
        self.assertEqual((Pair(its=("rim",), words=["deep"], other="b", one="a"), Pair.__bases__), (paper, (Denial,)))

    def agrees(self, one, other, value):
        wanted = type(value) is Pair and any(is_exact(value.parts, parts) for parts in pairs_by_definition(one, other))
        self.assertIs(shows_pair(book_read(*one), book_read(*other), value), wanted, (one, other, value))
        return wanted

    def test_which_papers_are_right(self):
        one, other = ("abc", ["a deep b", "b deep c"]), ("abcd", ["a apart b", "a meets c"])
        pairs = pairs_by_definition(one, other)
        self.assertGreater(len(pairs), 1)
        for parts in pairs:
            self.assertTrue(self.agrees(one, other, Pair(*as_lists(parts))))
            self.assertFalse(self.agrees(one, other, below(Pair(*parts))))
            self.assertFalse(self.agrees(one, other, Pair(parts[1], parts[0], parts[2], parts[3])))
            for value in bent(Pair(*parts)):
                self.agrees(one, other, value)
        self.assertFalse(self.agrees(one, other, Pair("b", "c", ("deep",), EIGHT)))
        wide = [("abc", ["a deep b"]), ("abc", ["a apart c"]), ("abc", ["a rim b", "b rim c"]), ("abc", ["a deep c"])]
        for (one, other), pair in itertools.product(itertools.product(wide, repeat=2), itertools.combinations("abc", 2)):
            words = [{row[:2]: row[2] for row in strongest(book_read(*book))}[pair] for book in (one, other)]
            self.agrees(one, other, Pair(*pair, *words))

    def test_what_is_not_possible(self):
        one, other = ("ab", ["a deep b"]), ("ab", ["a apart b", "a meets b"])
        for words in ((), ("apart",), ("meets",), EIGHT):
            self.assertFalse(self.agrees(one, other, Pair("a", "b", ("deep",), words)))
            self.assertFalse(self.agrees(other, one, Pair("a", "b", words, ("deep",))))
        self.assertFalse(self.agrees(other, other, Pair("a", "b", (), ())))

    def test_other_values(self):
        one, other = Book.read("a b : a deep b"), Book.read("a b c : a apart b")
        paper = parting_pair(one, other)
        for value in odd_values() + [one, paper.parts, Denial("pair", *paper.parts), Pair]:
            self.assertIs(shows_pair(one, other, value), False)
            for at in range(4):
                self.assertIs(shows_pair(one, other, Pair(*paper.parts[:at], value, *paper.parts[at + 1:])), False)
        self.assertIs(shows_pair(value=paper, other=other, one=one), True)
