"""Regions."""

from borderwords.errors import BadRegion, BadText, BadWorld
from borderwords.regions import Common, Land, Region, Rest, Sum
from tests.support import (
    Case, cells_over, chances, item_by_trying, items_changed, odd_values, over, some_region_text)

MADE = (Sum, Common, Rest)
NO_CELLS = (["b", "a"], ["a", "a"], "a", "", ["a", "B"], ["a", 1], [["a"]], [None], {"a"}, {"a": 1}, None, True, 1)


class Making(Case):
    """How regions are made, and what is refused."""

    def test_land(self):
        lake = Land("lake")
        self.assertEqual((lake.name, lake.lands, lake.depth, str(lake)), ("lake", ("lake",), 0, "lake"))
        self.assertEqual(Land(name="abcdefghijkl").name, "abcdefghijkl")

    def test_no_land(self):
        for value in odd_values() + ["abcdefghijklm", ["a"], ("a",), "-", "+", Land("a"), 3]:
            self.refused(BadRegion("name"), Land, value)

    def test_made(self):
        a, b = Land("a"), Land("b")
        for kind, sign in zip(MADE, "+*-"):
            made = kind(b, kind(a, b))
            self.assertEqual((made.one, made.other, made.lands, made.depth), (b, kind(a, b), ("a", "b"), 2))
            self.assertEqual(str(made), f"{sign} b {sign} a b")
            self.assertEqual((kind(a, a).lands, kind(a, a).depth), (("a",), 1))
            self.assertEqual(kind(other=b, one=a), kind(a, b))
            self.assertTrue(issubclass(kind, Region))
        self.assertEqual(Sum(Rest(Land("d"), b), Common(Land("c"), a)).lands, ("a", "b", "c", "d"))
        self.assertTrue(issubclass(Land, Region))
        self.assertEqual(Region.MOST_DEPTH, 2)

    def test_errors_in_order(self):
        a = Land("a")
        deep = Sum(Sum(a, a), a)
        for kind in MADE:
            for value in odd_values() + ["a", ["a"], a.lands]:
                self.refused(BadRegion("one"), kind, value, a)
                self.refused(BadRegion("one"), kind, value, value)
                self.refused(BadRegion("one"), kind, value, deep)
                self.refused(BadRegion("other"), kind, a, value)
                self.refused(BadRegion("other"), kind, deep, value)
            self.refused(BadRegion("depth"), kind, deep, a)
            self.refused(BadRegion("depth"), kind, a, deep)
            self.refused(BadRegion("depth"), kind, deep, deep)
            self.assertEqual(kind(Sum(a, a), Rest(a, a)).depth, 2)


class Covering(Case):
    """Over which cells regions lie."""

    def test_is_over(self):
        chance = chances(1)
        cells = cells_over("abcd")
        for _ in range(150):
            text = some_region_text(chance, "abc")
            region = Region.read(text)
            for cell in cells:
                names = sorted(cell)
                self.assertIs(region.is_over(names), bool(over(text, cell)), (text, names))
                self.assertEqual(region.is_over(tuple(names)), region.is_over(names))

    def test_each_made_region(self):
        a, b = Land("a"), Land("b")
        cells = [(), ("a",), ("b",), ("a", "b"), ("c",)]
        self.assertEqual([a.is_over(cell) for cell in cells], [False, True, False, True, False])
        self.assertEqual([Sum(a, b).is_over(cell) for cell in cells], [False, True, True, True, False])
        self.assertEqual([Common(a, b).is_over(cell) for cell in cells], [False, False, False, True, False])
        self.assertEqual([Rest(a, b).is_over(cell) for cell in cells], [False, True, False, False, False])

    def test_no_cell(self):
        a = Land("a")
        for region in (a, Sum(a, a), Common(a, a), Rest(a, a)):
            for value in NO_CELLS:
                self.refused(BadWorld("cell"), region.is_over, value)
        for value in odd_values():
            self.refused(BadWorld("cell"), a.is_over, value)


class Equality(Case):
    """Regions of one class with equal attributes are equal, no others."""

    def test_equal(self):
        texts = ["a", "b", "+ a + b a", "+ + a b a", "+ + b a a", "- * a b a", "* - a b a"]
        texts += [f"{sign} {one} {other}" for sign in "+*-" for one in "ab" for other in "ab"]
        for one in texts:
            for other in texts:
                self.assertEqual(Region.read(one) == Region.read(other), one == other)
                self.assertEqual(Region.read(one) != Region.read(other), one != other)

    def test_other_values(self):
        for region in (Land("a"), Sum(Land("a"), Land("b"))):
            for value in (str(region), region.lands, None, 0, False):
                self.assertFalse(region == value)


class Texts(Case):
    """Texts of regions."""

    def test_there_and_back(self):
        chance = chances(2)
        for _ in range(100):
            self.read_only(Region.read, some_region_text(chance, ("a", "b", "lake1", "abcdefghijkl")))

    def test_no_string(self):
        for value in (None, 1, True, b"a", ["a"], ("a",), Land("a"), {"a"}, 1.5):
            self.refused(BadText(0, 0), Region.read, value)

    def test_what_cannot_stand(self):
        wrong = [("", 0), (" ", 0), (" a", 0), ("a ", 1), ("a b", 1), ("+", 1), ("+ a", 2), ("+ a b c", 3),
                 ("+  a b", 1), ("+ a  b", 2), ("+ a b ", 3), ("+ - * a", 2), ("+ - a b * + a b c", 5),
                 ("+ - a b * c", 6), ("A", 0), ("+ a 1b", 2), ("! a", 0), ("a+b", 0), ("-", 1), ("+ a -", 3),
                 ("+ + a b + c d e", 7), ("abcdefghijklm", 0), ("a\n", 0), ("a\tb", 0), ("+ a\tb", 1), ("/", 0)]
        for text, item in wrong:
            self.refused(BadText(0, item), Region.read, text)

    def test_changed_texts(self):
        for told in ("a", "+ a b", "- * a b c", "* a - b c", "+ - a b * c d"):
            for text in items_changed(told, ("a", "+", "-", "A", "deep")):
                item = item_by_trying(Region.read, text, ("a",), 5)
                if item is None:
                    self.read_only(Region.read, text)
                else:
                    self.refused(BadText(0, item), Region.read, text)

    def test_read_is_static(self):
        self.assertIsInstance(vars(Region)["read"], staticmethod)
        self.assertEqual(Land("a").read("b"), Land("b"))
