"""Films that stay in a book: the shortest ones, what they reach, what they must pass."""

import itertools

from borderwords.bars import Avoids, NoFilm, Passes, map_keeps, passes, reached, shortest
from borderwords.books import Book
from borderwords.errors import BadBook, BadMap, Impossible, Misfit, TooMany
from borderwords.films import Film
from borderwords.maps import Map
from borderwords.papers import Denial, Paper
from borderwords.tables import by_threes
from tests.filming import Shore, book_by, is_right_passes, is_right_shortest, keeps, some_stays
from tests.support import EIGHT, Case, chances, odd_values
from tests.test_films import FAR, pair
from tests.test_limits import BENT, NO_MAPS

NO_PLAIN = [Book.read("a b : ! a"), Book.read("a b : + a b same b"), "a b : a deep b", FAR[0], Book, [Book(["a", "b"])]]
BAD = Map(list("abc"), ["deep", "apart", "deep"])
STAYS = Book.read("a b c : a apart b / a meets c / b overlaps|same|deep c")


def some_maps(chance, shore, many):
    return [shore.maps[chance.choice(list(shore.maps))] for _ in range(many)]


class Keeps(Case):
    """map_keeps."""

    def test_some(self):
        chance = chances(511)
        met = []
        for _ in range(200):
            lands = chance.choice(["a", "ab", "abc", "abcd", "abcde"])
            many = len(lands) * (len(lands) - 1) // 2
            full = Map(list(lands), [chance.choice(EIGHT) for _ in range(many)])
            book = some_stays(chance, lands) or Book(list(lands))
            met.append(keeps(full, book))
            self.assertIs(map_keeps(full=full, book=book), met[-1])
        self.assertGreater(min(met.count(True), met.count(False)), 30)

    def test_a_land_and_itself(self):
        full = pair("deep")[0]
        self.assertIs(map_keeps(full, Book.read("a b : a same|deep a")), True)
        self.assertIs(map_keeps(full, Book.read("a b : b holdsdeep a / a deep a")), False)
        self.assertIs(map_keeps(BAD, Book.read("a b c : a apart c / c apart|holdsdeep b")), True)

    def test_errors(self):
        full = FAR[0]
        for value in odd_values() + NO_MAPS:
            self.refused(BadMap("full"), map_keeps, value, value)
        for value in odd_values() + NO_PLAIN:
            self.refused(BadBook("book"), map_keeps, full, value)
        self.refused(Misfit("lands"), map_keeps, full, Book(["a"]))
        self.refused(Misfit("lands"), map_keeps, BENT, Book(["a", "b", "c"]))


class Reached(Case):
    """reached."""

    def test_some(self):
        chance = chances(512)
        many = []
        for _ in range(60):
            lands = chance.choice(["a", "ab", "abc", "abc"])
            stays = some_stays(chance, lands, 3)
            shore = Shore(lands, stays)
            for full in some_maps(chance, shore, 3) if shore.maps else []:
                found = reached(full, stays)
                self.assertEqual(found, shore.full(shore.reached([full.words])))
                self.assertEqual(reached(full=full, stays=stays), found)
                many.append(len(found) < len(shore.maps))
        self.assertGreater(many.count(True), 10)
        self.assertEqual([len(reached(Map(list("abc")[:at], ["same"] * (at * (at - 1) // 2)))) for at in (1, 2, 3)],
                         [1, 8, 193])

    def test_errors(self):
        full, stays = FAR[0], Book.read("a b : a deep b")
        for value in odd_values() + NO_MAPS:
            self.refused(BadMap("full"), reached, value, value)
        for value in odd_values() + NO_PLAIN:
            if value is not None:
                self.refused(BadBook("stays"), reached, full, value)
        self.refused(Misfit("lands"), reached, full, Book(["a"]))
        self.refused(Misfit("lands"), reached, BENT, Book(["a"]))
        self.refused(TooMany("lands", 3), reached, BENT)
        self.refused(TooMany("lands", 3), reached, BENT, Book.read("a b c d : a deep b"))
        self.refused(Misfit("stays"), reached, FAR[1], stays)
        self.refused(Misfit("stays"), reached, BAD, Book.read("a b c : a meets b"))
        self.refused(Impossible(by_threes(BAD)), reached, BAD, Book.read("a b c : a deep b"))
        self.refused(Impossible(by_threes(BAD)), reached, BAD)


class Shortest(Case):
    """shortest."""

    def told_right(self, one, other, stays):
        shore = Shore(one.lands, stays)
        films = shore.films(one.words, other.words)
        found = shortest(one, other, stays)
        if films:
            # Maps stand in their order: so the least row of their places is the first film.
            order = list(shore.maps)
            first = min(films, key=lambda film: [order.index(words) for words in film])
            self.assertEqual(found, Film(shore.full(first)))
        else:
            self.assertEqual(found, NoFilm(shore.full(shore.reached([one.words]))))
        self.assertTrue(is_right_shortest(one, other, stays, found))
        self.assertEqual(shortest(one=one, other=other, stays=stays), found)
        return bool(found)

    def test_two_lands(self):
        for stays in [None] + [book_by(words) for words in ("apart|meets|same", "deep|overlaps|meets")]:
            maps = [full for full in pair(*EIGHT) if keeps(full, stays)]
            for one, other in itertools.product(maps, repeat=2):
                self.told_right(one, other, stays)

    def test_three_lands(self):
        chance = chances(513)
        met = []
        for _ in range(80):
            stays = some_stays(chance, "abc", 3)
            shore = Shore("abc", stays)
            if shore.maps:
                met.append(self.told_right(*some_maps(chance, shore, 2), stays))
        self.assertGreater(min(met.count(True), met.count(False)), 5)

    def test_equal_maps(self):
        self.assertEqual(shortest(FAR[0], FAR[0]), Film(FAR[:1]))
        one = Map(["a"], [])
        self.assertEqual(shortest(one, one, Book(["a"])), Film([one]))

    def test_errors(self):
        one, other = FAR[:2]
        deep = Book.read("a b : a deep b")
        fine = Map(list("abc"), ["deep", "deep", "deep"])
        for value in odd_values() + NO_MAPS:
            self.refused(BadMap("one"), shortest, value, value, value)
            self.refused(BadMap("other"), shortest, one, value, value)
        for value in odd_values() + NO_PLAIN:
            if value is not None:
                self.refused(BadBook("stays"), shortest, one, BENT, value)
        self.refused(Misfit("lands"), shortest, one, BENT)
        self.refused(Misfit("lands"), shortest, BENT, BENT, Book(["a"]))
        self.refused(TooMany("lands", 3), shortest, BENT, BENT, Book(list("abcd")))
        for two in ((one, other), (other, one), (other, other)):
            self.refused(Misfit("stays"), shortest, *two, deep)
        self.refused(Misfit("stays"), shortest, fine, BAD, Book.read("a b c : a deep c"))
        for two in ((fine, BAD), (BAD, fine), (BAD, BAD)):
            self.refused(Impossible(by_threes(BAD)), shortest, *two)
        worse = Map(list("abc"), ["same", "apart", "deep"])
        self.refused(Impossible(by_threes(worse)), shortest, worse, BAD)


class PassesOf(Case):
    """passes."""

    def told_right(self, one, other, book, stays):
        found = passes(one, other, book, stays)
        self.assertTrue(is_right_passes(one, other, book, stays, found), found.parts)
        shore = Shore(one.lands, stays, book)
        films = []
        if one.words in shore.maps and other.words in shore.maps:
            films = shore.films(one.words, other.words)
        if films:
            order = list(shore.maps)
            first = min(films, key=lambda film: [order.index(words) for words in film])
            self.assertEqual(found, Avoids(Film(shore.full(first))))
        elif keeps(one, book):
            self.assertEqual(found, Passes([]))
        else:
            self.assertEqual(found, Passes(shore.full(shore.reached([one.words]))))
        self.assertEqual(passes(one=one, other=other, book=book, stays=stays), found)
        self.assertIs(bool(found), type(found) is Passes)
        return type(found)

    def test_two_lands(self):
        met = []
        for words in ("overlaps", "rim", "meets", "rim|holdsrim", "same|overlaps", "deep|apart", "overlaps|meets|same"):
            book = book_by(words)
            for one, other in itertools.product(pair(*EIGHT), repeat=2):
                met.append(self.told_right(one, other, book, None))
        self.assertGreater(min(met.count(Passes), met.count(Avoids)), 50)

    def test_three_lands(self):
        chance = chances(514)
        met = []
        for _ in range(80):
            stays, book = some_stays(chance, "abc", 2), some_stays(chance, "abc", 2) or Book.read("a b c : a meets b")
            shore = Shore("abc", stays)
            if shore.maps:
                met.append(self.told_right(*some_maps(chance, shore, 2), book, stays))
        self.assertGreater(min(met.count(Passes), met.count(Avoids)), 10)

    def test_a_book_that_each_map_keeps(self):
        self.assertEqual(passes(FAR[0], FAR[0], Book(["a", "b"])), Passes([]))
        self.assertEqual(passes(FAR[0], FAR[0], Book.read("a b : a deep a")), Avoids(Film(FAR[:1])))

    def test_errors(self):
        one, other, book = FAR[0], FAR[1], Book.read("a b : a meets b")
        for value in odd_values() + NO_MAPS:
            self.refused(BadMap("one"), passes, value, value, value, value)
            self.refused(BadMap("other"), passes, one, value, value, value)
        for value in odd_values() + NO_PLAIN:
            self.refused(BadBook("book"), passes, one, BENT, value, value)
            if value is not None:
                self.refused(BadBook("stays"), passes, one, BENT, book, value)
        self.refused(Misfit("lands"), passes, BENT, BENT, book)
        self.refused(Misfit("lands"), passes, one, other, Book(["a"]))
        self.refused(Misfit("lands"), passes, one, other, book, Book(["a"]))
        self.refused(TooMany("lands", 3), passes, BENT, BENT, Book(list("abcd")))
        self.refused(Misfit("stays"), passes, one, other, book, Book.read("a b : a deep b"))
        self.refused(Misfit("stays"), passes, BAD, BAD, Book(list("abc")), Book.read("a b c : a meets b"))
        self.refused(Impossible(by_threes(BAD)), passes, BAD, BAD, Book(list("abc")))
        self.refused(Impossible(by_threes(BAD)), passes, BAD, BAD, Book.read("a b c : a deep b"), None)

    def test_papers(self):
        for kind, name in ((NoFilm, "maps"), (Passes, "maps"), (Avoids, "film")):
            paper = kind(**{name: [1]})
            self.assertEqual((paper.word, paper.parts, vars(paper)[name]), (kind.__name__.lower(), ((1,),), (1,)))
            self.assertEqual((bool(paper), isinstance(paper, Denial)), (kind is Passes, kind is not Passes))
            self.assertIsInstance(paper, Paper)
            self.assertEqual(kind([1]), paper)

    def test_stays_of_the_document(self):
        one, other = Map.read("a b c : apart meets overlaps"), Map.read("a b c : apart meets deep")
        self.assertIs(type(shortest(one, other, STAYS)), NoFilm)
        self.assertTrue(shortest(one, other))
