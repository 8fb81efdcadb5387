"""Which papers of limits are right."""

import itertools

from borderwords.books import Book
from borderwords.check_limits import shows_limit, shows_limit_of_world
from borderwords.errors import BadMap, BadWorld, Misfit, TooMany
from borderwords.limits import LimitMaps, NotNear, limit
from borderwords.listed import maps_left
from borderwords.maps import Map, map_of
from borderwords.papers import Denial, Paper
from borderwords.tables import by_threes
from borderwords.vanish import Limit, NoLimitRow, limit_of_world
from borderwords.worlds import World
from tests.support import Case, as_lists, below, bent, chances, is_exact, odd_values, some_rows
from tests.test_limits import BENT, NO_MAPS, some_limit, some_map, words_of
from tests.test_vanish import NO_WORLDS, lots_by_definition, rows_left


def rows_kept(world, kept):
    """The rows that are left of a world, None if these cells cannot be those that stay."""
    if not isinstance(world, World) or not isinstance(kept, tuple) or len(kept) != len(world.rows):
        return None
    if not all(isinstance(stay, tuple) and all(type(at) is int for at in stay) for stay in kept):
        return None
    rows = [rows_left(row).get(stay) for row, stay in zip(world.rows, kept)]
    return None if None in rows else tuple(rows)


def is_right_limit_of_world(world, other, value):
    if type(value) is Limit:
        return rows_kept(world, value.kept) == other.rows
    if type(value) is not NoLimitRow or type(value.row) is not int or not 0 <= value.row < len(world.rows):
        return False
    row = world.rows[value.row]
    lots = lots_by_definition(row, other.rows[value.row])
    return len(row) - 1 not in lots[-1] and is_exact(value.lots, lots)


def is_right_limit(one, other, value):
    if type(value) is LimitMaps:
        rows = rows_kept(value.world, value.kept)
        return rows is not None and map_of(value.world) == one and map_of(World(rows)) == other
    if type(value) is not NotNear or not all(type(land) is str for land in value.parts):
        return False
    pairs = itertools.permutations(one.lands, 2)
    return value.parts in [pair for pair in pairs if other.word(*pair) not in words_of(one.word(*pair))]


class Checks(Case):
    """shows_limit_of_world and shows_limit."""

    def agrees(self, check, right, values, value):
        wanted = bool(right(*values, value))
        self.assertIs(check(*values, value), wanted, (list(map(str, values)), getattr(value, "parts", value)))
        return wanted

    def bends(self, check, right, values, paper):
        self.assertTrue(self.agrees(check, right, values, paper))
        for value in bent(paper):
            self.agrees(check, right, values, value)
        self.assertTrue(self.agrees(check, right, values, type(paper)(*as_lists(paper.parts))))
        self.assertFalse(self.agrees(check, right, values, below(paper)))
        for value in odd_values():
            self.agrees(check, right, values, value)
            for at in range(len(paper.parts)):
                self.agrees(check, right, values, type(paper)(*paper.parts[:at], value, *paper.parts[at + 1:]))
        for kind in (Paper, Denial):
            self.assertFalse(self.agrees(check, right, values, kind(paper.word, *paper.parts)))

    def test_limits_of_worlds(self):
        chance = chances(471)
        for _ in range(40):
            world = World(some_rows(chance, "ab", 2, 6))
            other = World([chance.choice(list(rows_left(row).values())) for row in world.rows])
            for one, its in ((world, other), (other, world)):
                self.bends(shows_limit_of_world, is_right_limit_of_world, (one, its), limit_of_world(one, its))

    def test_each_way_to_stay(self):
        world, other = World.read("a - a - b / b b b"), World.read("a - b / b b")
        met = [self.agrees(shows_limit_of_world, is_right_limit_of_world, (world, other), Limit([first, second]))
               for first in itertools.chain(*[itertools.combinations(range(5), many) for many in range(1, 5)])
               for second in ((0, 2), (0, 1, 2), (0, 1), (1, 2))]
        self.assertEqual(met.count(True), 1)

    def test_each_row_without_a_limit(self):
        one, other = World.read("a b / a b / a - b"), World.read("a - b / a b / a a b")
        for row in range(-1, 4):
            for lots in ([[0], [], []], [[0], [1]], [[0], [], []], [[0], []], [[0], [1], [2]], [[0], [1], []]):
                self.agrees(shows_limit_of_world, is_right_limit_of_world, (one, other), NoLimitRow(row, lots))
        for row in (0, 2):
            lots = lots_by_definition(one.rows[row], other.rows[row])
            self.assertTrue(self.agrees(
                shows_limit_of_world, is_right_limit_of_world, (one, other), NoLimitRow(row, lots)))

    def test_limits_of_maps(self):
        chance = chances(472)
        for lands in ("a", "ab", "abc", "abcd"):
            for _ in range(4):
                full = some_map(chance, lands)
                for one, other in ((full, some_limit(chance, full)), (some_limit(chance, full), full)):
                    self.bends(shows_limit, is_right_limit, (one, other), limit(one, other))

    def test_each_two_lands(self):
        chance = chances(473)
        met = []
        maps = list(maps_left(Book(["a", "b", "c"]))) + [Map(list("abc"), ["deep", "apart", "deep"])]
        for _ in range(40):
            values = chance.choice(maps), chance.choice(maps)
            for pair in itertools.product("abcd", repeat=2):
                met.append(self.agrees(shows_limit, is_right_limit, values, NotNear(*pair)))
        self.assertGreater(min(met.count(True), met.count(False)), 50)

    def test_other_worlds(self):
        one, other = Map.read("a b : overlaps"), Map.read("a b : rim")
        met = []
        for text, kept in (("b a+b a b", [[0, 1, 2, 3]]), ("b a+b / a+b a -", [[0, 1], [0, 2]]),
                           ("b a+b a -", [[0, 1, 3]]), ("b a+b a - -", [[0, 1, 3, 4]]), ("b a+b a -", [[0, 3]]),
                           ("a+b a b / b", [[0, 2], [0]]), ("a+b a b", [[0, 1, 2]]), ("a+b a b", [[0, 2]]),
                           ("b a a+b", [[0, 2]]), ("b a a+b - b", [[0, 2, 4]]), ("b a a+b - b", [[0, 2, 3, 4]])):
            met.append(self.agrees(shows_limit, is_right_limit, (one, other), LimitMaps(World.read(text), kept)))
        self.assertGreater(min(met.count(True), met.count(False)), 1)

    def test_maps_that_are_not_possible(self):
        fine = Map(list("abcd"), ["same"] * 6)
        self.assertFalse(by_threes(BENT))
        for values in ((BENT, fine), (fine, BENT), (BENT, BENT)):
            for pair in itertools.product("abcd", repeat=2):
                self.agrees(shows_limit, is_right_limit, values, NotNear(*pair))
            self.assertIs(shows_limit(*values, LimitMaps(World.read("a+b+c+d"), [[0]])), False)

    def test_errors(self):
        world, full = World.read("a b / b"), Map(["a", "b"], ["deep"])
        for value in odd_values() + NO_WORLDS:
            self.refused(BadWorld("world"), shows_limit_of_world, value, value, None)
            self.refused(BadWorld("other"), shows_limit_of_world, world, value, None)
        for value in odd_values() + NO_MAPS:
            self.refused(BadMap("one"), shows_limit, value, value, None)
            self.refused(BadMap("other"), shows_limit, full, value, None)
        self.refused(Misfit("lands"), shows_limit_of_world, world, World.read("a"), None)
        self.refused(Misfit("rows"), shows_limit_of_world, world, World.read("a b"), None)
        more = World([[["a", "b"]] * 401])
        self.refused(TooMany("cells", 400), shows_limit_of_world, more, World.read("a b"), None)
        self.refused(Misfit("lands"), shows_limit, full, BENT, None)
        six = Map(list("abcdef"), ["deep"] * 14 + ["apart"])
        self.refused(TooMany("lands", 5), shows_limit, six, six, None)
        self.assertIs(shows_limit(value=NotNear("a", "b"), other=full, one=full), False)
        self.assertIs(shows_limit_of_world(value=Limit([[0, 1], [0]]), other=world, world=world), True)
