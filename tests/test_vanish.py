"""Cells that vanish, and limits of worlds."""

import itertools

from borderwords.errors import BadLimit, BadNumber, BadWorld, Misfit, TooMany
from borderwords.papers import Denial, Paper
from borderwords.vanish import Limit, NoLimitRow, left_of, limit_of_world, vanished
from borderwords.worlds import World
from tests.support import Case, chances, odd_values, some_rows

NO_WORLDS = [[["a"]], "a b", ((("a",),),), World, {"a": 1}]


def between(cell, one, other):
    cell, one, other = set(cell), set(one), set(other)
    return one & other <= cell <= one | other


def rows_left(row):
    """For each lot of indexes that may stay of a row, what is left of it."""
    found = {}
    last = len(row) - 1
    for many in range(len(row)):
        for some in itertools.combinations(range(1, last), many):
            stay = tuple(sorted({0, *some, last}))
            if all(between(row[at], row[i], row[j]) for i, j in zip(stay, stay[1:]) for at in range(i + 1, j)):
                found[stay] = tuple(row[at] for at in stay)
    return found


def lots_by_definition(row, other):
    """The lots of a row of a world and of the row of the other one in its place."""
    lots = [(0,) if row[0] == other[0] else ()]
    for cell in other[1:]:
        lots.append(tuple(j for j in range(len(row)) if row[j] == cell and any(
            i < j and all(between(row[at], row[i], row[j]) for at in range(i + 1, j)) for i in lots[-1])))
    return tuple(lots)


class Vanished(Case):
    """vanished."""

    def test_each_start_and_end(self):
        chance = chances(451)
        met = []
        for _ in range(80):
            world = World(some_rows(chance, "ab", 2, 6))
            for row, cells in enumerate(world.rows):
                for start, end in itertools.product(range(len(cells) + 1), repeat=2):
                    fine = 0 < start < end < len(cells) and all(
                        between(cell, cells[start - 1], cells[end]) for cell in cells[start:end])
                    met.append(fine)
                    if fine:
                        left = vanished(world=world, row=row, start=start, end=end)
                        rows = list(world.rows)
                        rows[row] = cells[:start] + cells[end:]
                        self.assertEqual(left, World(rows))
                        self.assertEqual(left.lands, world.lands)
                    else:
                        self.refused(BadLimit("cells"), vanished, world, row, start, end)
        self.assertGreater(met.count(True), 50)

    def test_all_but_two(self):
        self.assertEqual(str(vanished(World.read("a+b a a+b b b b+c / c"), 0, 3, 5)), "a+b a a+b b+c / c")
        self.assertEqual(str(vanished(World.read("a a+b - a+b - b / c"), 0, 1, 5)), "a b / c")
        self.refused(BadLimit("cells"), vanished, World.read("a a+b a"), 0, 1, 2)
        self.refused(BadLimit("cells"), vanished, World.read("a b"), 0, 0, 1)
        self.refused(BadLimit("cells"), vanished, World.read("a b"), 0, 1, 2)
        self.refused(BadLimit("cells"), vanished, World.read("a"), 0, 0, 1)

    def test_errors(self):
        world = World.read("a - b / b")
        for value in odd_values() + NO_WORLDS:
            self.refused(BadWorld("world"), vanished, value, None, None, None)
        for value in [None, True, False, -1, 2, 1.0, "0", [0]]:
            self.refused(BadNumber("row"), vanished, world, value, None, None)
        for value in [None, True, False, -1, 4, 1.0, "0", [0]]:
            self.refused(BadNumber("start"), vanished, world, 0, value, None)
            self.refused(BadNumber("end"), vanished, world, 0, 3, value)
        self.refused(BadNumber("start"), vanished, world, 1, 2, 9)
        self.refused(BadNumber("end"), vanished, world, 1, 1, 2)
        self.refused(BadLimit("cells"), vanished, world, 1, 1, 1)


class LeftOf(Case):
    """left_of."""

    def test_each_lot_of_indexes(self):
        chance = chances(452)
        met = []
        for _ in range(60):
            world = World(some_rows(chance, "ab", 2, 5))
            rows = [[list(some) for many in range(len(row) + 1) for some in itertools.combinations(range(len(row)), many)]
                    for row in world.rows]
            for kept in itertools.product(*rows):
                ends = all(stay and stay[0] == 0 and stay[-1] == len(row) - 1 for stay, row in zip(kept, world.rows))
                left = [rows_left(row).get(tuple(stay)) for stay, row in zip(kept, world.rows)]
                if not ends:
                    self.refused(BadLimit("kept"), left_of, world, list(kept))
                elif None in left:
                    self.refused(BadLimit("cells"), left_of, world, list(kept))
                else:
                    met.append(left)
                    self.assertEqual(left_of(world=world, kept=kept), World(left))
        self.assertGreater(len(met), 60)

    def test_errors(self):
        world = World.read("a a+b b / b")
        for value in odd_values() + NO_WORLDS:
            self.refused(BadWorld("world"), left_of, value, None)
        for value in odd_values() + [
                [], [[0, 2]], [[0, 2], [0], [0]], [[0, 2], []], [[0, 2], 0], [[0, 0, 2], [0]], [[0, 2, 1], [0]],
                [[0, 1], [0]], [[1, 2], [0]], [[0, 2.0], [0]], [[False, 2], [0]], [[0, 2], [1]], [[0, 3], [0]],
                [[0, -1], [0]], [[2, 0], [0]], ["02", "0"], {0: [0, 2], 1: [0]}, [[0, True, 2], [0]], [[0], [0]]]:
            self.refused(BadLimit("kept"), left_of, world, value)
        self.refused(BadLimit("cells"), left_of, World.read("a - a / b"), [[0, 2], [0]])


class LimitOfWorld(Case):
    """limit_of_world."""

    def told_right(self, world, other):
        found = limit_of_world(world, other)
        lots = [lots_by_definition(row, its) for row, its in zip(world.rows, other.rows)]
        lacking = [at for at, row in enumerate(world.rows) if len(row) - 1 not in lots[at][-1]]
        # What the lots tell is what a try of all rows that are left shows.
        for at, row in enumerate(world.rows):
            self.assertEqual(at not in lacking, other.rows[at] in rows_left(row).values())
        if lacking:
            self.assertEqual(found, NoLimitRow(lacking[0], lots[lacking[0]]))
            self.assertFalse(found)
        else:
            self.assertIs(type(found), Limit)
            self.assertEqual(left_of(world, found.kept), other)
            self.assertTrue(found)
        self.assertEqual(limit_of_world(world=world, other=other), found)
        return found

    def test_some(self):
        chance = chances(453)
        met = []
        for _ in range(200):
            rows = some_rows(chance, "ab", 2, 7)
            world = World(rows)
            left = [chance.choice(list(rows_left(row).values())) for row in world.rows]
            met.append(bool(self.told_right(world, World(left))))
            self.assertTrue(met[-1])
            other = [[cell for cell in row if chance.random() < 0.8] or [row[0]] for row in left]
            other = [[chance.choice([cell, cell, cell, cell, (), ("a", "b")]) for cell in row] for row in other]
            if any("a" in cell for row in other for cell in row) and world.lands == World(other).lands:
                met.append(bool(self.told_right(world, World(other))))
                self.told_right(World(other), world)
        self.assertGreater(min(met.count(True), met.count(False)), 20)

    def test_rows_of_one_cell(self):
        self.assertTrue(self.told_right(World.read("a"), World.read("a")))
        self.assertFalse(self.told_right(World.read("a"), World.read("a a")))
        self.assertFalse(self.told_right(World.read("a a"), World.read("a")))
        self.assertFalse(self.told_right(World.read("a - / a"), World.read("a - / a - a")))
        self.assertTrue(self.told_right(World.read("a a a a"), World.read("a a")))

    def test_all_vanish_but_two(self):
        world = World.read("a " + "- a+b " * 150 + "b")
        self.assertEqual(limit_of_world(world, World.read("a b")).kept, ((0, 301),))
        self.assertEqual(limit_of_world(World.read("a b"), world).row, 0)
        self.assertEqual(len(limit_of_world(World.read("a b"), world).lots), 302)

    def test_400_cells(self):
        many = World.read(" ".join(["a", "a+b"] * 200))
        self.assertEqual(left_of(many, limit_of_world(many, many).kept), many)
        self.assertFalse(limit_of_world(many, World.read(" ".join(["a+b"] * 400))))
        more = World.read(" ".join(["a", "a+b"] * 200) + " a")
        for one, other in ((many, more), (more, many), (more, more)):
            self.refused(TooMany("cells", 400), limit_of_world, one, other)

    def test_errors(self):
        world = World.read("a b / b")
        for value in odd_values() + NO_WORLDS:
            self.refused(BadWorld("world"), limit_of_world, value, value)
            self.refused(BadWorld("other"), limit_of_world, world, value)
        self.refused(Misfit("lands"), limit_of_world, world, World.read("a"))
        self.refused(Misfit("lands"), limit_of_world, World.read("a c / b"), world)
        self.refused(Misfit("rows"), limit_of_world, world, World.read("a b"))
        more = World([[["a", "b"]] * 401, [["a"]]])
        self.refused(Misfit("rows"), limit_of_world, World([[["a", "b"]] * 401]), more)
        self.refused(Misfit("lands"), limit_of_world, World.read("a"), more)
        self.refused(TooMany("cells", 400), limit_of_world, world, more)

    def test_papers(self):
        limit, none = Limit(kept=[[0]]), NoLimitRow(row=0, lots=[[0], []])
        self.assertEqual((limit.word, limit.parts, limit.kept), ("limit", (((0,),),), ((0,),)))
        self.assertEqual((none.word, none.parts, none.row, none.lots), ("nolimitrow", (0, ((0,), ())), 0, ((0,), ())))
        self.assertTrue(limit and not none and isinstance(none, Denial) and isinstance(limit, Paper))
        self.assertNotIsInstance(limit, Denial)
