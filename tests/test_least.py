"""Least lots."""

import itertools

from borderwords.books import Book
from borderwords.check_least import shows_least
from borderwords.closing import strongest
from borderwords.errors import BadBook, Impossible, TooMany, Twice
from borderwords.idle import Idle, Needed, is_idle
from borderwords.least import LeastBook, MustBeSame, least_book, least_books
from borderwords.listed import maps_left
from borderwords.maps import Map, map_of
from borderwords.papers import Denial, Paper
from borderwords.possible import possible
from borderwords.worlds import World
from tests.support import (
    EIGHT, Case, against_by_definition, barred_rows_by_definition, book_read, chances, is_possible_by_definition,
    least_time, odd_values, some_rows, some_saying_text, world_keeps)
from tests.test_idle import tell, without
from tests.test_sure import NO_BOOKS

NO_PLAIN = NO_BOOKS + [Book.read("a b : a deep|rim b"), Book.read("a b : ! a"), Book.read("a b : + a b deep b")]


def lots(many):
    """All lots of so many numbers, in order."""
    return [lot for size in range(many + 1) for lot in itertools.combinations(range(many), size)]


def taken(texts, lot):
    """The texts of a lot."""
    return [texts[number] for number in lot]


def told_once(chance, lands, many, words):
    """Texts of sayings of one word, each of another two lands."""
    pairs = chance.sample(list(itertools.combinations(lands, 2)), many)
    return [" ".join([one, chance.choice(words), other][::chance.choice([1, -1])]) for one, other in pairs]


def told_of_world(chance, pairs):
    """Texts of what some world tells of these pairs of lands."""
    lands = sorted({land for pair in pairs for land in pair})
    while True:
        world = World(some_rows(chance, lands, 2, 4))
        if world.lands == tuple(lands):
            full = map_of(world)
            return [f"{one} {full.word(one, other)} {other}" for one, other in pairs]


class OneLeast(Case):
    """least_book."""

    def right(self, lands, texts):
        book = book_read(lands, texts)
        paper = least_book(book)
        numbers = tuple(number for number in range(len(texts))
                        if not tell(lands, without(texts, number), texts[number]))
        self.assertIs(type(paper), LeastBook)
        self.assertEqual((paper.numbers, len(paper.papers)), (numbers, len(texts)))
        for number, one in enumerate(paper.papers):
            if number in numbers:
                self.assertIs(type(one), Needed)
                self.assertEqual(one, is_idle(book, number))
                self.assertTrue(world_keeps(one.world, lands, without(texts, number)))
                self.assertFalse(world_keeps(one.world, lands, texts))
            else:
                self.assertIs(type(one), Idle)
                self.assertTrue(tell(lands, taken(texts, numbers), texts[number]))
                self.assertEqual(one, is_idle(book_read(lands, taken(texts, numbers) + [texts[number]]), len(numbers)))
        self.assertIs(shows_least(book, paper), True)
        self.assertEqual(least_book(book_read(lands, texts)), paper)
        return numbers

    def test_by_definition(self):
        chance = chances(261)
        met = []
        for lands, most in (("ab", 1), ("abc", 3), ("abcd", 6)):
            for _ in range(20):
                texts = told_once(chance, lands, chance.randint(0, most), EIGHT[:3] + EIGHT[4:])
                if is_possible_by_definition(lands, texts):
                    met.append((len(texts), len(self.right(lands, texts))))
        for _ in range(60):
            pairs = [pair[::chance.choice([1, -1])] for pair in itertools.combinations("abcd", 2)]
            texts = told_of_world(chance, pairs)[:chance.randint(3, 6)]
            if not any(" same " in text for text in texts):
                met.append((len(texts), len(self.right("abcd", texts))))
        self.assertGreater(len([row for row in met if row[0] > row[1]]), 4)

    def test_maps_of_worlds(self):
        chance = chances(262)
        many = 0
        for _ in range(40):
            full = map_of(World(some_rows(chance, "abcd", 2, 4)))
            texts = [f"{one} {word} {other}" for (one, other), word
                     in zip(itertools.combinations(full.lands, 2), full.words)]
            if "same" not in full.words:
                many = many + len(texts) - len(self.right(full.lands, texts))
        self.assertGreater(many, 10)

    def test_books_of_several_hundred_maps(self):
        chance = chances(263)
        maps = [full for many in (2, 3) for full in maps_left(Book(list("abc"[:many])))]
        while len(maps) < 420:
            world = World(some_rows(chance, "abcd", 4, 4))
            if len(world.lands) == 4:
                maps.append(map_of(world))
        met = []
        for full in maps:
            if "same" in full.words:
                with self.assertRaises(Impossible):
                    least_book(full.as_book())
                continue
            texts = [str(saying) for saying in full.as_book().sayings]
            met.append(len(texts) - len(self.right(full.lands, texts)))
            self.papers_by_definition(full.lands, texts)
        self.assertGreater(len(met), 300)
        self.assertGreater(len([one for one in met if one > 0]), 50)

    def papers_by_definition(self, lands, texts):
        """Each Barred of each Idle has the first need that is lacking, by the sayings of the lot and one against it."""
        paper = least_book(book_read(lands, texts))
        for number, one in enumerate(paper.papers):
            if type(one) is Idle:
                against = against_by_definition(texts[number])
                self.assertEqual(len(one.papers), len(against))
                for barred, text in zip(one.papers, against):
                    rows = barred_rows_by_definition(lands, taken(texts, paper.numbers) + [text])
                    self.assertEqual(barred.rows, tuple((words, lacks[0]) for words, lacks in rows))

    def test_in_a_short_time(self):
        """Not many times what it takes to close the same book: before, each saying was asked against anew."""
        book = Map(list("abcd"), ["overlaps"] * 6).as_book()
        self.assertLess(least_time(lambda: least_book(book)), 12 * least_time(lambda: strongest(book)))

    def test_five_lands(self):
        texts = [f"{one} deep {other}" for one, other in itertools.combinations("abcde", 2)]
        self.assertEqual(self.right("abcde", texts), (0, 4, 7, 9))

    def test_edges(self):
        self.assertEqual(self.right("a", []), ())
        self.assertEqual(self.right("a", ["a same a"]), ())
        self.assertEqual(self.right("ab", ["b deep a", "a same a"]), (0,))
        self.assertEqual(least_book(book=Book(["a", "b"])), LeastBook([], []))
        texts = ["a rim b", "b rim c", "a meets d", "c meets d", "a rim c"]
        self.assertEqual(self.right("abcd", texts), (0, 1, 2, 3))

    def test_refused(self):
        for call in (least_book, lambda book: shows_least(book, None)):
            for value in odd_values() + NO_PLAIN:
                self.refused(BadBook("book"), call, value)
            for text, pair in (("a b : a deep b / b holdsdeep a", ("a", "b")), ("a b : b deep a / b deep a", ("a", "b")),
                               ("a b c : a same c / b deep c / c rim b / a same c", ("b", "c")),
                               ("a b : a same a / a same b / a same a", ("a", "a")),
                               ("a b : a deep b / b deep a", ("a", "b"))):
                self.refused(Twice(pair), call, Book.read(text))
        for text in ("a b c : a deep b / b deep c / c deep a", "a b c : a same b / b deep c / a rim c", "a : a deep a"):
            self.refused(Impossible(possible(Book.read(text))), least_book, Book.read(text))
        for text, one, other in (("a b : b same a", "a", "b"), ("a b c : a deep c / c same b", "b", "c"),
                                 ("a b c d : a same a / d same c / b same a", "c", "d")):
            with self.assertRaises(Impossible) as found:
                least_book(Book.read(text))
            self.assertEqual(found.exception.paper, MustBeSame(one, other))
            self.assertIs(type(found.exception.paper), MustBeSame)

    def test_papers(self):
        least, same = LeastBook([1], [2]), MustBeSame("a", "b")
        self.assertEqual((least.word, least.parts, least.numbers, least.papers, bool(least)),
                         ("leastbook", ((1,), (2,)), (1,), (2,), True))
        self.assertEqual((same.word, same.parts, same.one, same.other, bool(same)),
                         ("mustbesame", ("a", "b"), "a", "b", False))
        self.assertEqual((LeastBook(papers=(2,), numbers=(1,)), MustBeSame(other="b", one="a")), (least, same))
        self.assertEqual((LeastBook.__bases__, MustBeSame.__bases__), ((Paper,), (Denial,)))


class AllLeast(Case):
    """least_books."""

    def right(self, lands, texts):
        wanted = [lot for lot in lots(len(texts))
                  if all(tell(lands, taken(texts, lot), text) for text in texts)
                  and not any(tell(lands, taken(texts, [other for other in lot if other != number]), texts[number])
                              for number in lot)]
        self.assertEqual(least_books(book_read(lands, texts)), tuple(wanted), texts)
        return wanted

    def test_by_definition(self):
        chance = chances(263)
        met = []
        for lands in ("a", "ab", "abc"):
            for _ in range(60):
                texts = [some_saying_text(chance, lands, 1, 1) for _ in range(chance.randint(0, 3))]
                if texts and chance.random() < 0.5:
                    texts.append(chance.choice(texts))
                if is_possible_by_definition(lands, texts):
                    met.append(len(self.right(lands, texts)))
        self.assertLessEqual({1, 2}, set(met))

    def test_plain_books(self):
        chance = chances(264)
        met = []
        for _ in range(40):
            pairs = [chance.choices("abc", k=2) for _ in range(5)] + [("a", "b"), ("b", "c")]
            texts = told_of_world(chance, pairs)[:5]
            met.append(len(self.right("abc", texts)))
        self.assertGreater(max(met), 1)

    def test_the_one_least_lot(self):
        chance = chances(265)
        for _ in range(20):
            texts = told_once(chance, "abcd", 6, ["apart", "deep", "meets", "rim"])
            book = book_read("abcd", texts)
            if possible(book):
                self.assertEqual(least_books(book), (least_book(book).numbers,))

    def test_edges(self):
        self.assertEqual(self.right("a", []), [()])
        self.assertEqual(self.right("a", ["a same a"] * 3), [()])
        self.assertEqual(self.right("ab", ["a deep b", "b holdsdeep a"] * 3), [(number,) for number in range(6)])
        self.assertEqual(self.right("abc", ["a same b", "a apart c", "b apart c"]), [(0, 1), (0, 2)])
        self.assertEqual(self.right("ab", ["a deep b", "! - a b"]), [(0,)])

    def test_refused(self):
        for value in odd_values() + NO_BOOKS + [Book.read("a b : a deep|rim b")]:
            self.refused(BadBook("book"), least_books, value)
        bad = Book.read("a b : a deep b / b deep a")
        self.refused(Impossible(possible(bad)), least_books, bad)
        seven = Book.read("a b : " + " / ".join(["a deep b"] * 7))
        self.refused(TooMany("sayings", 6), least_books, seven)
        worst = Book.read("a b : " + " / ".join(["a deep b"] * 6 + ["b deep a"]))
        self.refused(Impossible(possible(worst)), least_books, worst)
        self.assertEqual(len(least_books(book=seven.without([3]))), 6)
        self.assertEqual(Map.of(Book.read("a b : a deep b")), Map.read("a b : deep"))
