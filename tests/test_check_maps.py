"""Which papers of maps are right."""

import itertools

from borderwords.check_maps import shows_by_threes, shows_unlet
from borderwords.errors import BadMap, BadWorld, NoLand
from borderwords.maps import Map
from borderwords.papers import Denial, Paper
from borderwords.tables import MapKept, ThreeBarred, by_threes
from borderwords.widened import Unlet
from borderwords.worlds import World
from tests.support import (
    EIGHT, Case, all_borders, below, bent, chances, is_possible_by_definition, names_of, odd_values, rows_of,
    some_rows, word_by_definition)
from tests.test_borders import NO_BORDERS


def map_texts(full, lands):
    """The texts of the sayings of a map for these lands of it."""
    return [f"{one} {full.word(one, other)} {other}" for one, other in itertools.combinations(lands, 2)]


def is_right(full, paper):
    """Whether a paper of by_threes is right by the definitions."""
    if type(paper) is MapKept and isinstance(paper.world, World):
        rows = rows_of(paper.world)
        words = [word_by_definition(rows, *pair) for pair in itertools.combinations(full.lands, 2)]
        return paper.world.lands == full.lands and tuple(words) == full.words
    if type(paper) is not ThreeBarred or not isinstance(paper.lands, tuple) or len(paper.lands) != 3:
        return False
    if not all(type(land) is str and land in full.lands for land in paper.lands) or len(set(paper.lands)) != 3:
        return False
    return not is_possible_by_definition(sorted(paper.lands), map_texts(full, sorted(paper.lands)))


class ShowsByThrees(Case):
    """MapKept and ThreeBarred."""

    def agrees(self, full, paper):
        wanted = is_right(full, paper)
        self.assertIs(shows_by_threes(full, paper), wanted, (str(full), getattr(paper, "parts", paper)))
        return wanted

    def test_the_papers_told(self):
        chance = chances(101)
        met = []
        for many in (1, 2, 3, 4, 5):
            for _ in range(20):
                full = Map(list("abcde"[:many]), [chance.choice(EIGHT) for _ in range(many * (many - 1) // 2)])
                paper = by_threes(full)
                self.assertTrue(self.agrees(full, paper))
                for value in bent(paper):
                    self.agrees(full, value)
                met.append(bool(paper))
        self.assertGreater(min(met.count(True), met.count(False)), 20)

    def test_worlds(self):
        chance = chances(102)
        worlds = [World(some_rows(chance, "abc", 2, 3)) for _ in range(40)]
        maps = [Map(["a", "b", "c"], words) for words in itertools.product(EIGHT[::2], repeat=3)]
        met = [self.agrees(full, MapKept(world)) for full in maps + [Map(["a", "b"], ["meets"])] for world in worlds]
        self.assertGreater(met.count(True), 3)

    def test_each_three_lands_in_each_order(self):
        chance = chances(103)
        for _ in range(25):
            full = Map(list("abcd"), [chance.choice(EIGHT) for _ in range(6)])
            for lands in itertools.product("abcd", repeat=3):
                self.agrees(full, ThreeBarred(list(lands)))
            for lands in ((), ("a", "b"), ("a", "b", "c", "d"), ("a", "b", "z"), "abc"):
                self.agrees(full, ThreeBarred(lands))

    def test_ten_lands(self):
        lands = [f"l{number}" for number in range(10)]
        full = Map(lands, ["deep"] * 45)
        self.assertIs(shows_by_threes(full, by_threes(full)), True)
        bad = Map(lands, ["deep"] * 8 + ["holdsdeep"] + ["deep"] * 36)
        self.assertIs(shows_by_threes(bad, ThreeBarred(["l9", "l0", "l5"])), True)
        self.assertIs(shows_by_threes(bad, ThreeBarred(["l8", "l0", "l5"])), False)

    def test_other_values(self):
        full, bad = Map.read("a b c : deep deep deep"), Map.read("a b c : deep rim deep")
        for value in odd_values() + [full, World.read("a"), Paper("mapkept", by_threes(full).world), MapKept,
                                     Denial("threebarred", ("a", "b", "c"))]:
            self.assertIs(shows_by_threes(full, value), False)
            self.assertIs(shows_by_threes(bad, value), False)
            self.assertIs(shows_by_threes(full, MapKept(value)), False)
            self.assertIs(shows_by_threes(bad, ThreeBarred(value)), False)
            self.assertIs(shows_by_threes(bad, ThreeBarred(["a", "b", value])), False)
        self.assertIs(shows_by_threes(full=bad, value=ThreeBarred(["a", "b", "c"])), True)
        self.assertIs(shows_by_threes(bad, below(ThreeBarred(["a", "b", "c"]))), False)
        self.assertIs(shows_by_threes(full, below(by_threes(full))), False)

    def test_refused(self):
        for value in odd_values() + ["a :", World.read("a"), Map(["a"], []).as_book()]:
            self.refused(BadMap("full"), shows_by_threes, value, value)


class ShowsUnlet(Case):
    """Unlet."""

    def test_by_definition(self):
        chance = chances(104)
        met = []
        for _ in range(40):
            full = Map(list("abc"), [chance.choice(EIGHT[:2] + EIGHT) for _ in range(3)])
            for p, q in chance.sample(all_borders("abc"), 6):
                border = [list(names_of(cell)) for cell in chance.sample([p, q], 2)]
                for one, other in itertools.product("abcd", repeat=2):
                    wanted = one != other and {one, other} <= p | q and (
                        full.word(one, other) == "apart"
                        or full.word(one, other) == "meets" and any({one, other} <= cell for cell in (p, q)))
                    self.assertIs(shows_unlet(full, border, Unlet(one, other)), wanted, (str(full), border, one, other))
                    met.append(wanted)
        self.assertGreater(met.count(True), 40)

    def test_impossible_maps(self):
        bad = Map.read("a b c : apart same deep")
        self.assertFalse(by_threes(bad))
        self.assertIs(shows_unlet(bad, [["a", "c"], ["b"]], Unlet("b", "a")), True)
        self.assertIs(shows_unlet(bad, [["a", "c"], ["b"]], Unlet("b", "c")), False)
        self.assertIs(shows_unlet(bad, [["a", "c"], []], Unlet("b", "a")), False)

    def test_bent(self):
        full = Map.read("a b c : deep apart meets")
        for border in ([["a"], ["c"]], [("b", "c"), ()], [["c"], ["a", "b"]]):
            right = [Unlet(*two) for two in itertools.permutations("abc", 2) if shows_unlet(full, border, Unlet(*two))]
            self.assertIn(len(right), (2, 4))
            for paper in right:
                for value in bent(paper):
                    wanted = type(value) is Unlet and value in right and all(type(part) is str for part in value.parts)
                    self.assertIs(shows_unlet(full, border, value), wanted)
        for value in odd_values() + ["ac", ("a", "c"), Denial("unlet", "a", "c")]:
            self.assertIs(shows_unlet(full, [["a"], ["c"]], value), False)
            self.assertIs(shows_unlet(full, [["a"], ["c"]], Unlet("a", value)), False)
            self.assertIs(shows_unlet(full, [["a"], ["c"]], Unlet(value, "c")), False)
        self.assertIs(shows_unlet(value=Unlet("a", "c"), full=full, border=(("c",), ("a",))), True)
        self.assertIs(shows_unlet(full, [["a"], ["c"]], below(Unlet("a", "c"))), False)

    def test_refused(self):
        full, paper = Map.read("a b c : deep apart meets"), Unlet("a", "c")
        for value in odd_values() + ["a :", World.read("a")]:
            self.refused(BadMap("full"), shows_unlet, value, value, paper)
        for value in odd_values() + NO_BORDERS:
            self.refused(BadWorld("border"), shows_unlet, full, value, paper)
        self.refused(BadWorld("border"), shows_unlet, full, [["d"], ["b", "a"]], paper)
        self.refused(NoLand("e"), shows_unlet, full, [["c", "e"], ["d"]], paper)
        bad = Map.read("a b c : deep rim deep")
        self.refused(NoLand("d"), shows_unlet, bad, [["a"], ["c", "d", "e"]], None)
