"""The words of regions in worlds."""

from borderwords.checks import turned_word
from borderwords.errors import BadRegion, BadWorld, NoLand
from borderwords.looks import lies, word_of
from borderwords.regions import Land, Region
from borderwords.worlds import World
from tests.support import Case, chances, odd_values, over, rows_of, some_region_text, some_rows, word_by_definition

A, B, C = Land("a"), Land("b"), Land("c")


class WordOf(Case):
    """The word that holds of two regions."""

    def test_each_word_of_two_lands(self):
        told = {"a / b": "apart", "a - b": "apart", "a b": "meets", "- a b a -": "meets", "a a+b b": "overlaps",
                "a / a+b / b": "overlaps", "a+b - a+b": "same", "b a+b b": "deep", "a+b / b": "deep", "a+b b": "deep",
                "a+b - / b": "rim", "- b a+b / a+b -": "rim", "a a+b a": "holdsdeep", "a a+b -": "holdsrim"}
        for text, word in told.items():
            world = World.read(text)
            self.assertEqual(word_of(world, A, B), word, text)
            self.assertEqual(word_of(world, B, A), turned_word(word), text)
            self.assertEqual(word_of(world=world.mirrored(), one=A, other=B), word, text)

    def test_by_definition(self):
        chance = chances(5)
        met = set()
        for _ in range(700):
            world = World(some_rows(chance, "abc"))
            x, y = [some_region_text(chance, world.lands) for _ in range(2)]
            wanted = word_by_definition(rows_of(world), x, y)
            met.add(wanted)
            self.assertEqual(word_of(world, Region.read(x), Region.read(y)), wanted, (str(world), x, y))
            cells = [cell for row in rows_of(world) for cell in row]
            self.assertIs(lies(world, Region.read(x)), any(over(x, cell) for cell in cells))
        self.assertEqual(len(met), 9)

    def test_regions_that_lie_nowhere(self):
        world = World.read("a b")
        for text in ("- a a", "* a b", "- + a b + b a"):
            for other in (A, B, Region.read(text)):
                self.assertIsNone(word_of(world, Region.read(text), other))
                self.assertIsNone(word_of(world, other, Region.read(text)))
            self.assertIs(lies(world, Region.read(text)), False)
        self.assertIs(lies(world=world, region=Region.read("- a b")), True)

    def test_one_land(self):
        self.assertEqual(word_of(World.read("a -"), A, A), "same")
        self.assertEqual(word_of(World.read("a"), A, Region.read("+ a a")), "same")


class Errors(Case):
    """What is refused, in order."""

    def test_word_of(self):
        world = World.read("a b")
        for value in odd_values() + ["a", ["a"]]:
            self.refused(BadWorld("world"), word_of, value, A, B)
            self.refused(BadWorld("world"), word_of, value, value, value)
            self.refused(BadRegion("one"), word_of, world, value, B)
            self.refused(BadRegion("one"), word_of, world, value, value)
            self.refused(BadRegion("other"), word_of, world, A, value)
            self.refused(BadRegion("other"), word_of, world, C, value)
        self.refused(NoLand("c"), word_of, world, A, C)
        self.refused(NoLand("d"), word_of, world, Region.read("+ e d"), C)
        self.refused(NoLand("c"), word_of, world, Region.read("+ a b"), Region.read("+ + b c + d a"))
        self.refused(NoLand("c"), word_of, world, Region.read("- c c"), C)

    def test_lies(self):
        world = World.read("a b")
        for value in odd_values() + ["a", ["a"]]:
            self.refused(BadWorld("world"), lies, value, A)
            self.refused(BadWorld("world"), lies, value, value)
            self.refused(BadRegion("region"), lies, world, value)
        self.refused(NoLand("c"), lies, world, Region.read("+ d + c a"))
