"""Words by a third land, and which maps are possible."""

import itertools

from borderwords.errors import BadMap, BadWord
from borderwords.maps import Map, map_of
from borderwords.papers import Denial, Paper
from borderwords.tables import MapKept, ThreeBarred, by_threes, witness, words_by
from borderwords.worlds import World
from tests.support import (
    EIGHT, Case, all_borders, bars_by_definition, chances, lacks_by_definition, needs_by_definition, odd_values,
    rows_of, some_rows, word_by_definition)

TEN = [f"l{number}" for number in range(10)]


def text_of(word, its, third):
    """The texts of the sayings that x has word to y, y has its to z, x has third to z."""
    return [f"x {word} y", f"y {its} z", f"x {third} z"]


class Words(Case):
    """Which words x can have to z by those of x to y and of y to z."""

    def test_by_definition(self):
        borders = all_borders("xyz")
        barred = {(one, word, other): {at for at, (p, q) in enumerate(borders)
                                       if bars_by_definition(f"{one} {word} {other}", p, q)}
                  for one, other in ("xy", "yz", "xz") for word in EIGHT}
        many = 0
        for word, its in itertools.product(EIGHT, EIGHT):
            wanted = []
            for third in EIGHT:
                out = barred["x", word, "y"] | barred["y", its, "z"] | barred["x", third, "z"]
                let = [border for at, border in enumerate(borders) if at not in out]
                if all(any(has(p, q) for p, q in let)
                       for need, has in needs_by_definition("xyz", text_of(word, its, third))):
                    wanted.append(third)
            self.assertEqual(words_by(word, its), tuple(wanted), (word, its))
            many = many + len(wanted)
        self.assertEqual(many, 193)

    def test_witness(self):
        for word, its, third in itertools.product(EIGHT, repeat=3):
            world = witness(word, its, third)
            self.assertEqual(world is None, third not in words_by(word, its))
            if world is not None:
                self.assertEqual(world.lands, ("x", "y", "z"))
                words = [word_by_definition(rows_of(world), one, other) for one, other in ("xy", "yz", "xz")]
                self.assertEqual(words, [word, its, third])
                self.assertEqual(witness(word, its, third), world)

    def test_lacks(self):
        self.assertIsNone(witness("deep", "deep", "rim"))
        self.assertNotEqual(lacks_by_definition("xyz", text_of("deep", "deep", "rim")), [])

    def test_refused(self):
        for value in odd_values() + ["nowhere", "Deep", ["deep"], 3]:
            self.refused(BadWord("word"), words_by, value, "deep")
            self.refused(BadWord("word"), words_by, value, value)
            self.refused(BadWord("its"), words_by, "deep", value)
            self.refused(BadWord("word"), witness, value, value, value)
            self.refused(BadWord("its"), witness, "deep", value, value)
            self.refused(BadWord("third"), witness, "deep", "rim", value)
        self.assertEqual(words_by(its="same", word="rim"), ("rim",))
        self.assertIsNone(witness(third="deep", its="same", word="rim"))


class ByThrees(Case):
    """MapKept or ThreeBarred."""

    def right(self, full):
        """The paper for this map is right by the definitions."""
        paper = by_threes(full)
        threes = [three for three in itertools.combinations(full.lands, 3)
                  if witness(full.word(*three[:2]), full.word(*three[1:]), full.word(*three[::2])) is None]
        if threes:
            self.assertIs(type(paper), ThreeBarred)
            self.assertEqual(paper.lands, threes[0])
            return False
        self.assertIs(type(paper), MapKept)
        self.assertEqual(paper.world.lands, full.lands)
        rows = rows_of(paper.world)
        self.assertEqual(tuple(word_by_definition(rows, *pair) for pair in itertools.combinations(full.lands, 2)),
                         full.words)
        self.assertLessEqual(len(paper.world), 1400)
        self.assertEqual(by_threes(Map(full.lands, full.words)), paper)
        return True

    def test_all_maps_of_few_lands(self):
        self.assertTrue(self.right(Map(["a"], [])))
        for word in EIGHT:
            self.assertTrue(self.right(Map(["a", "b"], [word])))
        possible = [words for words in itertools.product(EIGHT, repeat=3) if self.right(Map(["a", "b", "c"], words))]
        self.assertEqual(len(possible), 193)
        self.assertEqual({(words[0], words[2], words[1]) for words in possible},
                         {row for row in itertools.product(EIGHT, repeat=3) if row[2] in words_by(*row[:2])})

    def test_some_maps_of_four_lands(self):
        chance = chances(51)
        met = []
        for _ in range(400):
            words = [chance.choice(EIGHT) for _ in range(6)]
            if chance.random() < 0.5:
                words[3] = chance.choice(words_by(Map(["a", "b"], words[:1]).word("b", "a"), words[1]))
                words[4] = chance.choice(words_by(Map(["a", "b"], words[:1]).word("b", "a"), words[2]))
                words[5] = chance.choice(words_by(Map(["a", "c"], words[1:2]).word("c", "a"), words[2]))
            met.append(self.right(Map(["a", "b", "c", "d"], words)))
        self.assertGreater(min(met.count(True), met.count(False)), 20)

    def test_maps_of_worlds(self):
        chance = chances(52)
        for many in range(2, 11):
            for _ in range(6):
                rows = some_rows(chance, TEN[:many], 4, 4)
                full = map_of(World(rows))
                self.assertTrue(self.right(full), rows)

    def test_nested_lands(self):
        for word in ("deep", "rim", "same"):
            rows = [TEN[at:] for at in range(10)]
            full = Map(TEN, [word] * 45)
            self.assertTrue(self.right(full), rows)
        self.assertTrue(self.right(Map(TEN, ["overlaps"] * 45)))
        self.assertTrue(self.right(Map(TEN, ["meets"] * 45)))
        self.assertTrue(self.right(Map(TEN, ["apart"] * 45)))

    def test_one_word_exchanged(self):
        chance = chances(53)
        met = []
        for _ in range(40):
            full = map_of(World(some_rows(chance, TEN[:chance.randint(3, 10)], 5, 4)))
            words = list(full.words)
            if words:
                words[chance.randrange(len(words))] = chance.choice(EIGHT)
                met.append(self.right(Map(full.lands, words)))
        self.assertGreater(met.count(False), 10)

    def test_refused(self):
        for value in odd_values() + ["a :", World.read("a"), Map(["a"], []).as_book()]:
            self.refused(BadMap("full"), by_threes, value)

    def test_papers(self):
        world = World.read("a")
        kept, barred = MapKept(world), ThreeBarred(["c", "b", "a"])
        self.assertEqual((kept.word, kept.parts, kept.world, bool(kept)), ("mapkept", (world,), world, True))
        self.assertEqual((barred.word, barred.parts, bool(barred)), ("threebarred", (("c", "b", "a"),), False))
        self.assertEqual((barred.lands, ThreeBarred(lands=("c", "b", "a"))), (("c", "b", "a"), barred))
        self.assertEqual(MapKept(world=world), kept)
        self.assertTrue(isinstance(barred, Denial) and isinstance(kept, Paper) and not isinstance(kept, Denial))
