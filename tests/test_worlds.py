"""Worlds."""

from borderwords.checks import cell_key
from borderwords.errors import BadText, BadWorld, NoLand, TooMany, Twice
from borderwords.worlds import World
from tests.support import (
    Case, borders_had, chances, item_by_trying, items_changed, odd_values, rows_of, some_rows)

TEN = [f"l{number}" for number in range(10)]
ELEVEN = TEN + ["l91"]
NO_ROWS = [[], (), [[]], [[["a"]], []], "a", [["a"]], ["a"], [["ab", "b"]], [[[1]]], [[["a"], None]], [[["A"]]],
           [[[["a"]]]], [[["a"]], 1], {"a": 1}, [{"a"}], [[{"a"}]], [[["a", ""]]], [[("a",), "b"]]]


def wide(cells, names=()):
    """Rows of so many cells, of which the first has these names."""
    return [[list(names)] + [[]] * (cells - 1)]


class Making(Case):
    """What a world keeps, and what is refused."""

    def test_attributes(self):
        world = World([[["b", "a"], [], ("a",)], [["b", "a"]]])
        self.assertEqual(world.rows, ((("a", "b"), (), ("a",)), (("a", "b"),)))
        self.assertEqual((world.lands, len(world)), (("a", "b"), 4))
        self.assertEqual(world.cells, ((), ("a",), ("a", "b")))
        self.assertEqual(world.borders, (((), ()), ((), ("a",)), ((), ("a", "b")), (("a",), ("a",)),
                                         (("a", "b"), ("a", "b"))))
        self.assertEqual((World.MOST_LANDS, World.MOST_CELLS), (10, 3000))
        self.assertEqual(World(rows=[[["a"]]]).rows, ((("a",),),))

    def test_cells_and_borders(self):
        chance = chances(3)
        for _ in range(100):
            world = World(some_rows(chance, "abcd"))
            rows = rows_of(world)
            cells = {frozenset(cell) for row in rows for cell in row}
            self.assertEqual(world.cells, tuple(sorted([tuple(sorted(cell)) for cell in cells], key=cell_key)))
            borders = [tuple(sorted([tuple(sorted(p)), tuple(sorted(q))], key=cell_key)) for p, q in borders_had(rows)]
            borders = sorted(borders, key=lambda border: (cell_key(border[0]), cell_key(border[1])))
            self.assertEqual(world.borders, tuple(borders))

    def test_rows_do_not_touch(self):
        self.assertNotIn((("a",), ("b",)), World.read("a / b").borders)
        self.assertIn((("a",), ("b",)), World.read("b a").borders)

    def test_no_rows(self):
        for value in odd_values() + NO_ROWS:
            self.refused(BadWorld("rows"), World, value)

    def test_errors_in_order(self):
        self.refused(BadWorld("rows"), World, [[["a", "a"]], []])
        self.refused(BadWorld("rows"), World, [[["a", "a"], ["A"]]])
        self.refused(Twice("b"), World, [[["a"], ["c", "b", "b", "c", "c"]], [["a", "a"]]])
        self.refused(Twice("a"), World, [[["a", "b", "a", "b"]]])
        self.refused(Twice("l0"), World, [[ELEVEN, ["l0", "l0"]]])
        self.refused(Twice("a"), World, [[["a", "a"]] + [[]] * 3000])
        self.refused(BadWorld("lands"), World, [[[]]])
        self.refused(BadWorld("lands"), World, wide(3001))
        self.refused(TooMany("lands", 10), World, [[ELEVEN]])
        self.refused(TooMany("lands", 10), World, [[[name]] for name in ELEVEN])
        self.refused(TooMany("lands", 10), World, wide(3001, ELEVEN))
        self.refused(TooMany("cells", 3000), World, wide(3001, ["a"]))
        self.refused(TooMany("cells", 3000), World, [[["a"]]] * 3001)
        self.assertEqual(World([[TEN]]).lands, tuple(TEN))
        self.assertEqual([len(World(wide(3000, ["a"]))), len(World([[["a"], []]] * 1500))], [3000, 3000])

    def test_what_is_passed_may_be_changed(self):
        rows = [[["b", "a"], []]]
        world = World(rows)
        rows[0][0].append("c")
        rows[0].append(["d"])
        rows.append([["e"]])
        self.assertEqual((str(world), world.lands), ("a+b -", ("a", "b")))
        self.assertEqual(rows[0][0], ["b", "a", "c"])


class Changes(Case):
    """Worlds made of worlds."""

    def test_beside(self):
        world = World.read("a b / -")
        self.assertEqual(str(world.beside(World.read("c - / c"))), "a b / - / c - / c")
        self.assertEqual(world.beside(other=world).lands, ("a", "b"))
        self.assertEqual(str(world), "a b / -")

    def test_beside_refused(self):
        world = World.read("a")
        for value in odd_values() + ["a", [[["a"]]], world.rows]:
            self.refused(BadWorld("other"), world.beside, value)
        self.refused(TooMany("lands", 10), world.beside, World([[TEN]]))
        self.refused(TooMany("lands", 10), World(wide(1, ["a"])).beside, World(wide(3000, TEN)))
        self.refused(TooMany("cells", 3000), world.beside, World(wide(3000, ["a"])))
        self.assertEqual(len(world.beside(World(wide(2999, ["a"])))), 3000)
        self.assertEqual(len(World([[["a"]]]).beside(World([[TEN[:9]]])).lands), 10)

    def test_mirrored(self):
        world = World.read("a b - / c / a+b b")
        self.assertEqual(str(world.mirrored()), "- b a / c / b a+b")
        self.assertEqual((world.mirrored().mirrored(), world.mirrored().borders), (world, world.borders))

    def test_renamed(self):
        world = World.read("a+b c / -")
        self.assertEqual(str(world.renamed([])), "a+b c / -")
        self.assertEqual(str(world.renamed([("a", "z")])), "b+z c / -")
        self.assertEqual(str(world.renamed((["a", "b"], ["b", "c"], ["c", "a"]))), "b+c a / -")
        self.assertEqual(str(world.renamed([("a", "a")])), "a+b c / -")

    def test_renamed_refused(self):
        world = World.read("a+b c")
        for value in odd_values() + ["ab", ["ab"], [("a",)], [("a", "b", "c")], [("a", 1)], [("a", "B")], ["a", "b"],
                                     [("A", "b")], [(1, "b")], ("a", "b"), {"a": "b"}, [{"a", "b"}]]:
            if value != []:
                self.refused(BadWorld("pairs"), world.renamed, value)
        self.refused(BadWorld("pairs"), world.renamed, [("x", "b"), ("a", "a", "a")])
        self.refused(NoLand("x"), world.renamed, [("a", "b"), ("a", "c"), ("x", "d"), ("y", "d")])
        self.refused(Twice("b"), world.renamed, [("a", "b"), ("b", "c"), ("b", "c"), ("a", "d")])
        self.refused(Twice("b"), world.renamed, [("a", "b")])
        self.refused(Twice("a"), world.renamed, [("c", "a")])
        self.refused(Twice("z"), world.renamed, [("c", "z"), ("b", "z")])
        self.refused(Twice("b"), world.renamed, [("a", "x"), ("b", "b"), ("c", "b")])

    def test_without(self):
        world = World.read("a+b b / a -")
        self.assertEqual([str(world.without("a")), str(world.without("b"))], ["b b / - -", "a - / a -"])
        for value in odd_values() + ["c", ["a"], ("a",)]:
            self.refused(NoLand(value), world.without, value)
            self.refused(NoLand(value), World.read("b").without, value)
        self.refused(BadWorld("lands"), World.read("a -").without, "a")
        self.assertEqual(str(world), "a+b b / a -")


class Equality(Case):
    """Worlds with the same rows are equal."""

    def test_equal(self):
        texts = ["a", "a -", "a / -", "- a", "a a", "a b", "a+b", "b a", "a / b", "b"]
        for one in texts:
            for other in texts:
                self.assertEqual(World.read(one) == World.read(other), one == other)
                self.assertEqual(World.read(one) != World.read(other), one != other)
        self.assertEqual(World([[["a", "b"]]]), World(((("b", "a"),),)))
        for value in ("a", None, 0, ((("a",),),), [[["a"]]]):
            self.assertFalse(World.read("a") == value)


class Texts(Case):
    """Texts of worlds."""

    def test_there_and_back(self):
        chance = chances(4)
        for _ in range(60):
            world = World(some_rows(chance, ("a", "b1", "abcdefghijkl")))
            self.assertEqual(World.read(str(world)), world)
            self.read_only(World.read, str(world))
        self.read_only(World.read, "- a+b - / - - / b")
        self.read_only(World.read, "+".join(TEN) + " -")
        self.read_only(World.read, " ".join(["-"] * 2999 + ["a"]))

    def test_no_string(self):
        for value in (None, 1, True, b"a", ["a"], World.read("a"), 1.5):
            self.refused(BadText(0, 0), World.read, value)

    def test_what_cannot_stand(self):
        wrong = [("", 0), ("/", 0), ("/ a", 0), ("a /", 2), ("a / / b", 2), ("a / b /", 4), ("a  b", 1), ("a ", 1),
                 (" a", 0), ("- / -", 2), ("-", 0), ("- - -", 2), ("- /", 2), ("b+a", 0), ("a a+a", 1), ("a +", 1),
                 ("a+", 0), ("a+-", 0), ("a --", 1), ("a a+B", 1), ("a 1", 1), ("a -a", 1), ("a // b", 1),
                 ("a+abcdefghijklm", 0), ("a+b+a", 0), ("a\nb", 0), ("a/b", 0), ("a a++b", 1)]
        for text, item in wrong:
            self.refused(BadText(0, item), World.read, text)

    def test_changed_texts(self):
        for told in ("a+b - / c", "- - a", "a / b / a b"):
            for text in items_changed(told, ("a", "b+a", "-", "/", "A")):
                item = item_by_trying(World.read, text, ("a",), 1)
                if item == len(text.split(" ")) and not text.endswith("/"):
                    item = item - 1  # no item is missing: only the whole shows that there is no land
                if item is None:
                    self.read_only(World.read, text)
                else:
                    self.refused(BadText(0, item), World.read, text)

    def test_too_much(self):
        self.refused(BadText(0, 0), World.read, "+".join(ELEVEN))
        self.refused(BadText(0, 10), World.read, " ".join(ELEVEN) + " -")
        self.refused(BadText(0, 12), World.read, "- / " + " ".join(ELEVEN[:10]) + " a+b")
        self.refused(BadText(0, 3000), World.read, " ".join(["a"] * 3001))
        self.refused(BadText(0, 3001), World.read, "a / " + " ".join(["-"] * 3001))
        self.refused(BadText(0, 2999), World.read, " ".join(["-"] * 3000))
        self.refused(BadText(0, 3000), World.read, " ".join(["a"] * 3000) + " /")
        self.refused(BadText(0, 5999), World.read, " / ".join(["a"] * 3001))
        self.refused(BadText(0, 2999), World.read, " ".join(["-"] * 3000) + " a")
        self.refused(BadText(0, 2998), World.read, " ".join(["-"] * 2999))
        self.assertEqual(len(World.read("a / " + " ".join(["-"] * 2999))), 3000)
