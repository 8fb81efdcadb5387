"""Borders widened by maps."""

import itertools

from borderwords.errors import BadMap, BadWorld, Impossible, NoLand
from borderwords.maps import Map, map_of
from borderwords.tables import by_threes
from borderwords.widened import Unlet, widened
from borderwords.worlds import World
from tests.support import (
    EIGHT, Case, all_borders, chances, let_by_definition, names_of, odd_values, some_rows)
from tests.test_borders import NO_BORDERS


def lies_in(border, other):
    """Whether the one border lies in the other one."""
    (p, q), (r, s) = border, other
    return (p <= r and q <= s) or (p <= s and q <= r)


class Widened(Case):
    """The least border around a border that the map lets."""

    def right(self, full, border, let):
        """What is returned, or raised, for the border is right by the definitions."""
        around = [other for other in let if lies_in(border, other)]
        least = [other for other in around if all(lies_in(other, its) for its in around)]
        told = [names_of(cell) for cell in border]
        if least:
            self.assertEqual(len(least), 1)
            self.assertEqual(widened(full, told), tuple(names_of(cell) for cell in least[0]))
            self.assertEqual(widened(full, [list(cell) for cell in told[::-1]]), widened(full, told))
            return
        self.assertEqual(around, [])
        barring = [(one, other) for one, other in itertools.combinations(sorted(border[0] | border[1]), 2)
                   if full.word(one, other) == "apart" or (full.word(one, other) == "meets" and any(
                       one in cell and other in cell for cell in border))]
        self.refused(Impossible(Unlet(*barring[0])), widened, full, told)

    def test_maps_of_two_lands(self):
        for word in EIGHT:
            full = Map(["a", "b"], [word])
            let = let_by_definition("ab", [f"a {word} b"])
            for border in all_borders("ab"):
                self.right(full, border, let)

    def test_maps_of_worlds(self):
        chance = chances(61)
        for lands in ("abc", "abcd"):
            for _ in range(30 if lands == "abc" else 8):
                full = map_of(World(some_rows(chance, lands, 3, 3)))
                told = [f"{one} {word} {other}" for (one, other), word
                        in zip(itertools.combinations(full.lands, 2), full.words)]
                let = let_by_definition(full.lands, told)
                for border in all_borders(full.lands):
                    self.right(full, border, let)

    def test_nested_lands(self):
        for words in itertools.product(("deep", "rim", "same"), repeat=3):
            full = Map(["a", "b", "c"], words)
            if by_threes(full):
                told = [f"{one} {word} {other}" for (one, other), word in zip(itertools.combinations("abc", 2), words)]
                let = let_by_definition("abc", told)
                for border in all_borders("abc"):
                    self.right(full, border, let)

    def test_one_land(self):
        full = Map(["a"], [])
        self.assertEqual(widened(full, [["a"], []]), ((), ("a",)))
        self.assertEqual(widened(full=full, border=((), ())), ((), ()))


class Errors(Case):
    """What is refused, in order."""

    def test_refused(self):
        full, bent = Map.read("a b c : deep apart meets"), Map.read("a b c : deep rim deep")
        for value in odd_values() + ["a :", World.read("a"), full.as_book()]:
            self.refused(BadMap("full"), widened, value, [["a"], []])
            self.refused(BadMap("full"), widened, value, None)
        for value in odd_values() + NO_BORDERS:
            self.refused(BadWorld("border"), widened, full, value)
            self.refused(BadWorld("border"), widened, bent, value)
        self.refused(BadWorld("border"), widened, full, [["d"], ["b", "a"]])
        self.refused(NoLand("e"), widened, full, [["c", "e"], ["d"]])
        self.refused(NoLand("d"), widened, bent, [["a"], ["c", "d", "e"]])
        self.refused(Impossible(by_threes(bent)), widened, bent, [["a"], []])
        self.refused(Impossible(by_threes(bent)), widened, bent, [["a", "b"], ["c"]])
        self.assertEqual(by_threes(bent).lands, ("a", "b", "c"))

    def test_the_first_two_lands(self):
        full = Map.read("a b c d : meets apart apart meets apart apart")
        self.refused(Impossible(Unlet("a", "c")), widened, full, [["c"], ["a"]])
        self.refused(Impossible(Unlet("a", "c")), widened, full, [["b", "c", "d"], ["a"]])
        self.refused(Impossible(Unlet("a", "b")), widened, full, [["c", "d"], ["a", "b"]])
        self.refused(Impossible(Unlet("b", "d")), widened, full, [["d"], ["b"]])
        self.refused(Impossible(Unlet("b", "c")), widened, full, [["b", "c"], []])
        self.assertEqual(widened(full, [["c"], ["b"]]), (("b",), ("c",)))

    def test_paper(self):
        paper = Unlet("a", "b")
        self.assertEqual((paper.word, paper.parts, paper.one, paper.other, bool(paper)),
                         ("unlet", ("a", "b"), "a", "b", False))
        self.assertEqual(Unlet(other="b", one="a"), paper)
