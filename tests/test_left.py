"""What all maps that a book leaves have in common."""

import itertools

from borderwords.books import Book
from borderwords.check_sure import shows_told
from borderwords.errors import BadBook, Impossible, TooMany
from borderwords.left import OneMap, SeveralMaps, map_told, told_words
from borderwords.listed import maps_left
from borderwords.maps import Map
from borderwords.papers import Denial, Paper
from borderwords.possible import possible
from borderwords.worlds import World
from tests.support import (
    EIGHT, Case, below, bent, book_read, chances, is_possible_by_definition, odd_values, rows_of, some_plain_text,
    some_rows, some_saying_text, word_by_definition, world_keeps)
from tests.test_sure import NO_BOOKS


def words_by_definition(lands, texts):
    """For each two lands, in order, the words that they have in worlds that keep the book."""
    return [(one, other, [word for word in EIGHT if is_possible_by_definition(lands, texts + [f"{one} {word} {other}"])])
            for one, other in itertools.combinations(sorted(lands), 2)]


def words_in(world):
    """The words of each two lands of a world, in order."""
    return [word_by_definition(rows_of(world), one, other) for one, other in itertools.combinations(world.lands, 2)]


def is_right(lands, texts, value):
    """Whether a value is a right paper by the definitions."""
    if type(value) is OneMap:
        words = words_by_definition(lands, texts)
        if not is_possible_by_definition(lands, texts) or not isinstance(value.full, Map):
            return False
        return value.full.lands == tuple(sorted(lands)) and [[word] for word in value.full.words] == [
            row[2] for row in words]
    if type(value) is not SeveralMaps:
        return False
    worlds = (value.one, value.other)
    return all(world_keeps(world, lands, texts) for world in worlds) and words_in(value.one) != words_in(value.other)


class Told(Case):
    """told_words and map_told."""

    def right(self, lands, texts):
        book = book_read(lands, texts)
        words = words_by_definition(lands, texts)
        told = tuple((one, other, had[0]) for one, other, had in words if len(had) == 1)
        self.assertEqual(told_words(book), told, texts)
        paper = map_told(book)
        self.assertTrue(is_right(lands, texts, paper))
        self.assertIs(type(paper), OneMap if len(told) == len(words) else SeveralMaps)
        self.assertIs(shows_told(book, paper), True)
        self.assertEqual(map_told(book_read(lands, texts)), paper)
        if len(lands) < 4:
            self.assertEqual(bool(paper), len(maps_left(book)) == 1)
            if paper:
                self.assertEqual(maps_left(book), (paper.full,))
        return bool(paper)

    def test_by_definition(self):
        chance = chances(221)
        met = []
        for lands in ("a", "ab", "abc"):
            for _ in range(40):
                texts = [some_saying_text(chance, lands, 1, 3) for _ in range(chance.randint(0, 3))]
                if is_possible_by_definition(lands, texts):
                    met.append(self.right(lands, texts))
        self.assertGreater(min(met.count(True), met.count(False)), 10)

    def test_plain_books(self):
        chance = chances(222)
        for _ in range(12):
            texts = [some_plain_text(chance, "abcd", 2) for _ in range(3)]
            if is_possible_by_definition("abcd", texts):
                self.right("abcd", texts)

    def test_maps_as_books(self):
        chance = chances(223)
        for _ in range(12):
            world = World(some_rows(chance, "abcd"))
            texts = [f"{one} {word} {other}" for (one, other), word
                     in zip(itertools.combinations(world.lands, 2), words_in(world))]
            self.assertTrue(self.right(world.lands, texts))

    def test_edges(self):
        self.assertTrue(self.right("a", []))
        self.assertFalse(self.right("ab", []))
        self.assertFalse(self.right("abc", []))
        self.assertTrue(self.right("ab", ["a deep b"] * 9))
        self.assertTrue(self.right("ab", ["a deep|rim b", "b apart|holdsrim a"]))
        self.assertEqual(map_told(Book.read("a b : a same|deep b / a apart|deep|rim b")), OneMap(Map.read("a b : deep")))
        self.assertFalse(self.right("abc", ["a deep b"]))
        five = Book.read("a b c d e : a deep b / b deep c / c deep d / d deep e")
        self.assertEqual(map_told(five), OneMap(Map(list("abcde"), ["deep"] * 10)))
        self.assertEqual(told_words(book=five)[9], ("d", "e", "deep"))

    def test_refused(self):
        bad = Book.read("a b : a deep b / b deep a")
        ten = Book.read("a b : " + " / ".join(["a deep b"] * 10))
        worst = Book.read("a b : " + " / ".join(["a deep b", "b deep a"] * 5))
        for call in (told_words, map_told, lambda book: shows_told(book, None)):
            for value in odd_values() + NO_BOOKS:
                self.refused(BadBook("book"), call, value)
            self.refused(TooMany("sayings", 10), call, ten)
        for call in (told_words, map_told):
            self.refused(Impossible(possible(bad)), call, bad)
            self.refused(Impossible(possible(worst)), call, worst)
        self.refused(TooMany("sayings", 10), shows_told, worst, None)

    def test_papers(self):
        one, several = OneMap([1]), SeveralMaps([1], 2)
        self.assertEqual((one.word, one.parts, one.full, bool(one)), ("onemap", ((1,),), (1,), True))
        self.assertEqual((several.word, several.parts, several.one, several.other, bool(several)),
                         ("severalmaps", ((1,), 2), (1,), 2, False))
        self.assertEqual((OneMap(full=(1,)), SeveralMaps(other=2, one=(1,))), (one, several))
        self.assertEqual((OneMap.__bases__, SeveralMaps.__bases__), ((Paper,), (Denial,)))


class ShowsTold(Case):
    """Which papers are right."""

    def agrees(self, lands, texts, value):
        wanted = is_right(lands, texts, value)
        self.assertIs(shows_told(book_read(lands, texts), value), wanted, (texts, value))
        return wanted

    def test_bent(self):
        chance = chances(224)
        for _ in range(25):
            texts = [some_saying_text(chance, "ab", 1, 3) for _ in range(2)]
            if is_possible_by_definition("ab", texts):
                for value in bent(map_told(book_read("ab", texts))):
                    self.agrees("ab", texts, value)

    def test_all_maps_and_worlds(self):
        chance = chances(225)
        worlds = [World(some_rows(chance, "ab", 2, 3)) for _ in range(12)] + [World.read("a b c"), World.read("b")]
        met = []
        for texts in ([], ["a deep b"], ["a deep|rim b"], ["! * a b"], ["a deep b", "b deep a"], ["a apart b"]):
            for word in EIGHT:
                met.append(self.agrees("ab", texts, OneMap(Map(["a", "b"], [word]))))
                self.agrees("ab", texts, OneMap(Map(["b", "a"], [word])))
                self.assertFalse(self.agrees("ab", texts, OneMap(Map(["a", "c"], [word]))))
            for one, other in itertools.product(worlds, worlds):
                met.append(self.agrees("ab", texts, SeveralMaps(one, other)))
        self.assertGreater(met.count(True), 20)
        self.assertFalse(self.agrees("ab", ["a deep b"], OneMap(Map(["a"], []))))
        self.assertTrue(self.agrees("a", [], OneMap(Map(["a"], []))))
        self.assertFalse(self.agrees("a", ["! a"], OneMap(Map(["a"], []))))
        self.assertFalse(self.agrees("a", ["a deep a"], OneMap(Map(["a"], []))))

    def test_other_values(self):
        known, wide = Book.read("a b : a deep b"), Book.read("a b : a deep|rim b")
        one, several = map_told(known), map_told(wide)
        for value in odd_values() + [known, one.full, Paper("onemap", one.full), OneMap, str(one.full)]:
            self.assertIs(shows_told(known, value), False)
            self.assertIs(shows_told(wide, value), False)
            self.assertIs(shows_told(known, SeveralMaps(value, value)), False)
            self.assertIs(shows_told(wide, SeveralMaps(several.one, value)), False)
            self.assertIs(shows_told(wide, SeveralMaps(value, several.one)), False)
        for value in odd_values() + [str(one.full), one.full.as_book()]:
            self.assertIs(shows_told(known, OneMap(value)), False)
        self.assertIs(shows_told(book=wide, value=SeveralMaps(several.other, several.one)), True)
        self.assertIs(shows_told(known, below(one)), False)
        self.assertIs(shows_told(wide, below(several)), False)
