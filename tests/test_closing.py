"""The strongest sayings of plain books, and maps of some lands."""

import itertools

from borderwords.books import Book
from borderwords.closing import fits_within, strongest
from borderwords.errors import BadBook, BadMap, Impossible, Misfit
from borderwords.maps import Map
from borderwords.possible import possible
from borderwords.tables import by_threes, words_by
from tests.support import EIGHT, Case, book_text, chances, lacks_by_definition, odd_values, some_plain_text

NO_BOOKS = ["a :", ["a"], Map(["a"], []), Book.read("a b : a deep|rim b"), Book.read("a b : ! a"),
            Book.read("a b : + a b deep b")]


BY = {pair: set(words_by(*pair)) for pair in itertools.product(EIGHT, EIGHT)}


def closed_by_threes(lands, texts):
    """What is left of the words of each two lands when words are left out that no third land lets."""
    left = {}
    for one, other in itertools.permutations(lands, 2):
        left[one, other] = set(EIGHT)
    for text in texts:
        one, word, other = text.split(" ")
        if one != other:
            left[one, other] &= {word}
            left[other, one] &= {Map(["x", "y"], [word]).word("y", "x")}
    changed = True
    while changed:
        changed = False
        for one, by, other in itertools.permutations(lands, 3):
            let = {word for first in left[one, by] for its in left[by, other] for word in BY[first, its]}
            if not left[one, other] <= let:
                left[one, other] &= let
                changed = True
    return left


class Strongest(Case):
    """The words that each two lands can have."""

    def test_by_definition(self):
        chance = chances(71)
        many = 0
        for lands in ("ab", "abc"):
            for _ in range(25):
                texts = [some_plain_text(chance, lands) for _ in range(chance.randint(0, 3))]
                book = Book.read(book_text(lands, texts))
                if lacks_by_definition(lands, texts):
                    self.refused(Impossible(possible(book)), strongest, book)
                    continue
                many = many + 1
                wanted = tuple((one, other, tuple(word for word in EIGHT if not lacks_by_definition(
                    lands, texts + [f"{one} {word} {other}"]))) for one, other in itertools.combinations(lands, 2))
                self.assertEqual(strongest(book), wanted)
        self.assertGreater(many, 15)

    def test_by_threes(self):
        chance = chances(72)
        many = 0
        for lands in ("abcd", "abcde"):
            for _ in range(12):
                texts = [some_plain_text(chance, lands) for _ in range(chance.randint(0, 5))]
                book = Book.read(book_text(lands, texts))
                if possible(book):
                    left = closed_by_threes(lands, texts)
                    self.assertEqual(strongest(book), tuple(
                        (one, other, tuple(word for word in EIGHT if word in left[one, other]))
                        for one, other in itertools.combinations(lands, 2)))
                    many = many + 1
        self.assertGreater(many, 8)

    def test_edges(self):
        self.assertEqual(strongest(Book(["a"])), ())
        self.assertEqual(strongest(book=Book(["b", "a"])), (("a", "b", EIGHT),))
        self.assertEqual(strongest(Book.read("a b : a deep b / a deep b / b same b")), (("a", "b", ("deep",)),))
        ten = Book.read("a b c d e : " + " / ".join(["a deep b"] * 9 + ["e holdsrim d"]))
        self.assertEqual([words for one, other, words in strongest(ten) if (one, other) in (("a", "b"), ("d", "e"))],
                         [("deep",), ("rim",)])

    def test_refused(self):
        for value in odd_values() + NO_BOOKS:
            self.refused(BadBook("book"), strongest, value)
        for text in ("a b : a deep b / b deep a", "a : a deep a", "a b c : a deep b / b deep c / a rim c"):
            book = Book.read(text)
            self.refused(Impossible(possible(book)), strongest, book)


class FitsWithin(Case):
    """Maps of some lands of a book."""

    def test_by_definition(self):
        chance = chances(73)
        met = []
        for _ in range(60):
            texts = [some_plain_text(chance, "abc") for _ in range(chance.randint(0, 2))]
            book = Book.read(book_text("abc", texts))
            lands = chance.sample("abc", chance.randint(1, 3))
            words = [chance.choice(EIGHT) for _ in itertools.combinations(lands, 2)]
            more = [f"{one} {word} {other}" for (one, other), word in zip(itertools.combinations(lands, 2), words)]
            wanted = not lacks_by_definition("abc", texts + more)
            self.assertIs(fits_within(Map(lands, words), book), wanted, (texts, more))
            met.append(wanted)
        self.assertGreater(min(met.count(True), met.count(False)), 10)

    def test_by_the_strongest_sayings(self):
        book = Book.read("a b c d : a deep b / b meets c / c rim d / d overlaps a")
        told = {(one, other): words for one, other, words in strongest(book)}
        for lands in itertools.combinations("abcd", 3):
            pairs = list(itertools.combinations(lands, 2))
            for words in itertools.product(EIGHT, repeat=3):
                full = Map(list(lands), words)
                wanted = bool(by_threes(full)) and all(word in told[pair] for pair, word in zip(pairs, words))
                self.assertIs(fits_within(full, book), wanted)

    def test_what_is_not_possible(self):
        self.assertIs(fits_within(Map(["a"], []), Book.read("a b : a deep b / b deep a")), False)
        self.assertIs(fits_within(Map.read("a b c : deep rim deep"), Book(["a", "b", "c", "d"])), False)
        self.assertIs(fits_within(full=Map(["a"], []), book=Book(["a"])), True)

    def test_five_lands_and_ten_sayings(self):
        book = Book.read("a b c d e : " + " / ".join(["a deep b"] * 10))
        self.assertIs(fits_within(Map(list("abcde"), ["deep"] * 10), book), True)
        self.assertIs(fits_within(Map(list("abcde"), ["rim"] * 10), book), False)

    def test_refused(self):
        full, book = Map(["a"], []), Book(["a", "b"])
        for value in odd_values() + ["a :", ["a"], book]:
            self.refused(BadMap("full"), fits_within, value, book)
            self.refused(BadMap("full"), fits_within, value, value)
        for value in odd_values() + NO_BOOKS:
            self.refused(BadBook("book"), fits_within, full, value)
            self.refused(BadBook("book"), fits_within, Map(["z"], []), value)
        self.refused(Misfit("lands"), fits_within, Map(["a", "c"], ["deep"]), book)
        self.refused(Misfit("lands"), fits_within, Map(["c"], []), Book.read("a b : a deep b / b deep a"))
