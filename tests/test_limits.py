"""Limits of maps."""

import itertools

from borderwords.books import Book
from borderwords.errors import BadLimit, BadMap, BadWord, BadWorld, Impossible, Misfit, NoLand, TooMany
from borderwords.limits import LimitMaps, NotNear, cells_between, limit, limit_words
from borderwords.listed import maps_left
from borderwords.maps import Map, map_of
from borderwords.papers import Denial, Paper
from borderwords.tables import by_threes
from borderwords.vanish import left_of
from borderwords.worlds import World
from tests.support import EIGHT, Case, chances, let_by_definition, names_of, odd_values, some_rows
from tests.test_vanish import between, rows_left

BECOMES = {"apart": "apart meets", "meets": "meets", "overlaps": "meets overlaps same rim holdsrim", "same": "same",
           "deep": "same deep rim", "rim": "same rim", "holdsdeep": "same holdsdeep holdsrim",
           "holdsrim": "same holdsrim"}
NO_MAPS = ["a b : deep", Book.read("a b : a deep b"), (("a", "b"), ("deep",)), Map, World.read("a b")]
BENT = Map(["a", "b", "c", "d"], ["apart", "deep", "rim", "meets", "meets", "deep"])


def words_of(word):
    return BECOMES[word].split()


def is_near(full, near):
    """Whether each word of a map may become that of another one."""
    return all(its in words_of(word) for word, its in zip(full.words, near.words))


def texts_of(full):
    return [str(saying) for saying in full.as_book().sayings]


def some_map(chance, lands):
    """A map that some world has."""
    while True:
        world = World(some_rows(chance, lands, 5, 4))
        if len(world.lands) == len(lands):
            return map_of(world)


def some_limit(chance, full):
    """A possible map that is a limit of this one."""
    while True:
        near = Map(full.lands, [chance.choice(words_of(word)) for word in full.words])
        if by_threes(near):
            return near


class LimitWords(Case):
    """limit_words."""

    def test_each(self):
        for word in EIGHT:
            self.assertEqual(limit_words(word=word), tuple(words_of(word)))
        for value in odd_values() + ["deep ", "Deep", ("deep",)]:
            self.refused(BadWord("word"), limit_words, value)

    def test_what_worlds_show(self):
        """Of all rows of up to five cells that two lands can have: the words of what is left."""
        cells = [(), ("a",), ("b",), ("a", "b")]
        had = {word: set() for word in EIGHT}
        for many in range(1, 6):
            for row in itertools.product(cells, repeat=many):
                if {name for cell in row for name in cell} == {"a", "b"}:
                    word = map_of(World([row])).words[0]
                    had[word] |= {map_of(World([left])).words[0] for left in rows_left(row).values()}
        for word in EIGHT:
            self.assertEqual(had[word], set(words_of(word)))


class CellsBetween(Case):
    """cells_between."""

    def told_right(self, full, one, other, let):
        found = cells_between(full, one, other)
        self.assertIs(type(found), tuple)
        self.assertEqual((found[0], found[-1]), (names_of(one), names_of(other)))
        self.assertEqual(len(found), len(set(found)))
        for cell in found:
            self.assertTrue(between(cell, one, other))
            self.assertIn((frozenset(cell), frozenset(cell)), let)
        for p, q in zip(found, found[1:]):
            p, q = frozenset(p), frozenset(q)
            self.assertTrue((p, q) in let or (q, p) in let, (str(full), found))
        self.assertEqual(cells_between(full=full, one=list(one), other=list(other)), found)

    def test_some(self):
        chance = chances(461)
        for lands in ("a", "ab", "abc", "abcd", "abcde"):
            for _ in range(12):
                full = some_map(chance, lands)
                let = set(let_by_definition(lands, texts_of(full)))
                cells = [names_of(p) for p, q in let_by_definition(lands, texts_of(full)) if p == q]
                for one, other in itertools.product(cells, repeat=2):
                    self.told_right(full, one, other, let)
                barred = [names for many in range(len(lands) + 1) for names in itertools.combinations(lands, many)
                          if names not in cells]
                for cell in barred:
                    self.refused(BadLimit("one"), cells_between, full, cell, cell)
                    self.refused(BadLimit("other"), cells_between, full, (), cell)

    def test_equal_cells(self):
        full = Map(["a", "b"], ["overlaps"])
        for cell in ((), ("a",), ("a", "b")):
            self.assertEqual(cells_between(full, cell, cell), (cell,))

    def test_ten_lands(self):
        lands = [f"l{at}" for at in range(10)]
        nested = Map(lands, ["deep"] * 45)
        self.assertEqual(len(cells_between(nested, lands, [])), 11)
        self.assertEqual(cells_between(Map(lands, ["same"] * 45), [], lands), ((), tuple(lands)))
        self.assertEqual(len(cells_between(Map(lands, ["overlaps"] * 45), lands[:5], lands[5:])), 11)
        self.refused(BadLimit("other"), cells_between, nested, lands[3:], lands[:3])

    def test_errors(self):
        full = Map(["a", "b"], ["deep"])
        for value in odd_values() + NO_MAPS:
            self.refused(BadMap("full"), cells_between, value, None, None)
        for value in odd_values() + [["b", "a"], ["a", "a"], "a", [["a"]]]:
            if value != () and value != []:
                self.refused(BadWorld("one"), cells_between, full, value, None)
                self.refused(BadWorld("other"), cells_between, full, ["c"], value)
        self.refused(NoLand("c"), cells_between, full, ["a", "c", "d"], ["e"])
        self.refused(NoLand("e"), cells_between, full, ["a"], ["b", "e"])
        self.refused(NoLand("e"), cells_between, BENT, [], ["b", "e"])
        self.refused(Impossible(by_threes(BENT)), cells_between, BENT, ["a", "b"], [])
        self.refused(BadLimit("one"), cells_between, full, ["a"], ["a"])
        self.refused(BadLimit("other"), cells_between, full, ["b"], ["a"])


class Limits(Case):
    """limit."""

    def told_right(self, one, other):
        found = limit(one, other)
        pairs = list(itertools.combinations(one.lands, 2))
        against = [pair for pair in pairs if other.word(*pair) not in words_of(one.word(*pair))]
        if against:
            self.assertEqual(found, NotNear(*against[0]))
            self.assertFalse(found)
        else:
            self.assertIs(type(found), LimitMaps)
            self.assertEqual(map_of(found.world), one)
            self.assertEqual(map_of(left_of(found.world, found.kept)), other)
            self.assertLessEqual(len(found.world), 500 if len(one.lands) < 5 else 1400)
            self.assertLessEqual(len(found.world.rows), 150)
            self.assertEqual(limit(one=one, other=other), found)
        return found

    def test_each_two_maps_of_few_lands(self):
        for many in (1, 2, 3):
            maps = maps_left(Book(list("abc"[:many])))
            near = [bool(self.told_right(one, other)) for one in maps for other in maps
                    if is_near(one, other) or many < 3]
            self.assertGreater(near.count(True), 0)

    def test_some_of_more_lands(self):
        chance = chances(462)
        for lands in ("abcd", "abcde"):
            for _ in range(60):
                full = some_map(chance, lands)
                self.assertTrue(self.told_right(full, full))
                self.assertTrue(self.told_right(full, some_limit(chance, full)))
                other = some_map(chance, lands)
                self.assertEqual(bool(self.told_right(full, other)), is_near(full, other))

    def test_all_overlap(self):
        for lands in ("abcd", "abcde"):
            many = len(lands) * (len(lands) - 1) // 2
            full = Map(list(lands), ["overlaps"] * many)
            for word in ("meets", "same", "rim", "overlaps"):
                self.told_right(full, Map(list(lands), [word] * many))

    def test_a_limit_of_a_limit(self):
        chance = chances(463)
        for _ in range(40):
            full = some_map(chance, "abcd")
            near = some_limit(chance, full)
            self.assertTrue(limit(full, some_limit(chance, near)))

    def test_errors(self):
        one = Map(["a", "b"], ["deep"])
        for value in odd_values() + NO_MAPS:
            self.refused(BadMap("one"), limit, value, value)
            self.refused(BadMap("other"), limit, one, value)
            self.refused(BadMap("other"), limit, BENT, value)
        self.refused(Misfit("lands"), limit, one, Map(["a", "c"], ["deep"]))
        self.refused(Misfit("lands"), limit, one, BENT)
        fine = Map(list("abcd"), ["same"] * 6)
        other = Map(list("abcd"), ["deep", "deep", "deep", "holdsdeep", "holdsdeep", "apart"])
        self.refused(Impossible(by_threes(BENT)), limit, BENT, other)
        self.refused(Impossible(by_threes(BENT)), limit, BENT, fine)
        self.refused(Impossible(by_threes(BENT)), limit, fine, BENT)
        self.refused(Impossible(by_threes(other)), limit, fine, other)
        six, bent = Map(list("abcdef"), ["deep"] * 15), Map(list("abcdef"), ["deep"] * 14 + ["apart"])
        self.refused(TooMany("lands", 5), limit, six, six)
        self.refused(TooMany("lands", 5), limit, six, Map(list("abcdef"), ["apart"] * 15))
        self.refused(Impossible(by_threes(bent)), limit, six, bent)

    def test_papers(self):
        found, none = LimitMaps(world=1, kept=[[0]]), NotNear(one="a", other="b")
        self.assertEqual((found.word, found.parts, found.world, found.kept), ("limitmaps", (1, ((0,),)), 1, ((0,),)))
        self.assertEqual((none.word, none.parts, none.one, none.other), ("notnear", ("a", "b"), "a", "b"))
        self.assertTrue(found and not none and isinstance(none, Denial) and isinstance(found, Paper))
        self.assertNotIsInstance(found, Denial)
