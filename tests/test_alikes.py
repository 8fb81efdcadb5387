"""Worlds that say the same, and the papers of it."""

import itertools

from borderwords.alikes import Alike, Unlike, alike, just_over, sum_of
from borderwords.check_alikes import shows_alike
from borderwords.errors import BadWorld, Misfit, NoLand, TooMany
from borderwords.looks import word_of
from borderwords.papers import Denial, Paper
from borderwords.regions import Land, Region, Sum
from borderwords.worlds import World
from tests.support import (
    Case, below, cells_over, chances, namesake, odd_values, over, rows_of, some_rows, word_by_definition)

A, B = Land("a"), Land("b")


def same_kinds_and_borders(one, other):
    """Whether two lists of rows have what the facts of point [5] name in common."""
    kinds = [{cell for row in rows for cell in row if cell} for rows in (one, other)]
    pairs = [{frozenset(pair) for row in rows for pair in zip(row, row[1:]) if pair[0] != pair[1]}
             for rows in (one, other)]
    return kinds[0] == kinds[1] and (len(kinds[0]) == 1 or pairs[0] == pairs[1])


class AlikeWorlds(Case):
    """Alike or Unlike."""

    def right(self, one, other, told):
        """The paper shows what it tells, as the definitions have it."""
        alike_by_fact = same_kinds_and_borders(rows_of(one), rows_of(other))
        self.assertEqual(bool(told), alike_by_fact, (str(one), str(other)))
        if told:
            self.assertEqual(told, Alike())
            return
        self.assertIs(type(told), Unlike)
        self.assertLessEqual(set(told.one.lands) | set(told.other.lands), set(one.lands))
        words = [word_by_definition(rows_of(world), str(told.one), str(told.other)) for world in (one, other)]
        self.assertEqual([told.here, told.there], words)
        self.assertNotEqual(told.here, told.there)

    def test_by_definition(self):
        chance = chances(6)
        for lands in ("a", "ab", "abc", "abcd"):
            worlds = [World(some_rows(chance, lands)) for _ in range(25)]
            worlds = [world for world in worlds if world.lands == tuple(lands)]
            pairs = list(itertools.product(worlds, worlds))
            self.assertGreater(len(pairs), 50)
            for one, other in pairs[:200]:
                told = alike(one, other)
                self.right(one, other, told)
                self.assertEqual(alike(one, World(other.rows)), told)
                self.assertTrue(shows_alike(one, other, told))

    def test_one_border_or_one_kind(self):
        told = [("a b c", "a b / b c", True), ("a b c a", "a b c", False), ("a -", "a", True), ("a b -", "a b", False),
                ("a b", "b a / a a / -", True), ("a b a+b", "a b", False), ("a / b / a+b", "a / b", False),
                ("a - b", "a - / - b", True), ("a - b", "a - / b", False), ("a+b -", "- / a+b a+b", True),
                ("a+b+c+d a", "a+b+c+d / a", False), ("a+b+c+d - a", "a+b+c+d - / - a / -", True)]
        for one, other, wanted in told:
            one, other = World.read(one), World.read(other)
            self.assertIs(bool(alike(one, other)), wanted, (str(one), str(other)))
            self.right(one, other, alike(one, other))
            self.right(other, one, alike(other, one))

    def test_alike_worlds_say_the_same_of_all_regions(self):
        one, other = World.read("a - b a+b / b"), World.read("a+b b - b - / - a")
        self.assertTrue(alike(one, other))
        regions = [A, B]
        regions += [Region.read(f"{sign} {x} {y}") for sign in "+*-" for x in "ab" for y in "ab"]
        regions += [Region.read(f"{sign} {x} {y}") for sign in "+*-" for x in regions[:] for y in regions[:]]
        for x, y in itertools.product(regions[::7], regions):
            self.assertEqual(word_of(one, x, y), word_of(other, x, y))

    def test_errors_in_order(self):
        one, few, five = World.read("a b"), World.read("a"), World.read("a b c d e")
        for call in (alike, lambda one, other: shows_alike(one, other, Alike())):
            for value in odd_values() + ["a b", [[["a"]]]]:
                self.refused(BadWorld("one"), call, value, one)
                self.refused(BadWorld("one"), call, value, value)
                self.refused(BadWorld("other"), call, one, value)
            self.refused(Misfit("lands"), call, one, few)
            self.refused(Misfit("lands"), call, five, one)
            self.refused(TooMany("lands", 4), call, five, five)
            self.assertTrue(call(World.read("a b c d"), World.read("a b c d")))


class ShowsAlike(Case):
    """Which papers are right."""

    def test_right_ones(self):
        one, other = World.read("a / b"), World.read("a b")
        for right in (Unlike(A, B, "apart", "meets"), Unlike(B, A, "apart", "meets"),
                      Unlike(Sum(A, A), B, "apart", "meets")):
            self.assertIs(shows_alike(one, other, right), True)
        whole = World.read("a+b")
        self.assertIs(shows_alike(whole, one, Unlike(Region.read("* a b"), A, "same", None)), True)
        self.assertIs(shows_alike(one, whole, Unlike(Region.read("* a b"), A, None, "same")), True)
        self.assertIs(shows_alike(one, one, Alike()), True)
        self.assertIs(shows_alike(one, World.read("b / a / -"), Alike()), True)

    def test_wrong_ones(self):
        one, other = World.read("a / b"), World.read("a b")
        c = Land("c")
        wrong = [Alike(), Unlike(A, B, "meets", "apart"), Unlike(A, B, "apart", "apart"), Unlike(A, A, "same", "same"),
                 Unlike("a", "b", "apart", "meets"), Unlike(A, c, "apart", "meets"), Unlike(A, c, None, None),
                 Unlike(c, B, "apart", "meets"), Unlike(Sum(A, c), B, "apart", "meets"),
                 Unlike(A, Region.read("- b c"), "apart", "meets"), Unlike(A, B, "apart", None),
                 Unlike(A, B, None, "meets"), Unlike(Region.read("* a b"), A, None, None),
                 Unlike(None, None, None, None), Unlike(A, B, 0, 1), Unlike(A, B, ["apart"], ["meets"]),
                 Paper("alike"), Denial("unlike", A, B, "apart", "meets"), Unlike([A], [B], "apart", "meets"), World,
                 "alike", True, None]
        wrong += [Unlike(A, B, value, "meets") for value in odd_values()]
        wrong += [Unlike(A, B, "apart", value) for value in odd_values()]
        wrong += [Unlike(value, B, "apart", "meets") for value in odd_values()]
        wrong += [Unlike(A, value, "apart", "meets") for value in odd_values()]
        for value in wrong + odd_values():
            self.assertIs(shows_alike(one, other, value), False, value)
            self.assertIs(shows_alike(one=one, other=one, value=value), isinstance(value, Alike), value)


    def test_papers_of_classes_below(self):
        one, other = World.read("a / b"), World.read("a b")
        for worlds, paper in (((one, one), Alike()), ((one, other), Unlike(A, B, "apart", "meets"))):
            self.assertIs(shows_alike(*worlds, paper), True)
            self.assertIs(shows_alike(*worlds, below(paper)), False)
            self.assertIs(shows_alike(*worlds, below(below(paper))), False)
            self.assertIs(shows_alike(*worlds, namesake(paper)), False)


class MadeRegions(Case):
    """Regions over one cell alone, or over each one with some land."""

    def test_just_over(self):
        for many in range(1, 5):
            for lands in itertools.permutations("abcd", many):
                for cell in cells_over(sorted(lands))[1:]:
                    region = just_over(sorted(cell), list(lands))
                    self.assertLessEqual(region.depth, 2)
                    self.assertLessEqual(set(region.lands), set(lands))
                    found = [its for its in cells_over(sorted(lands)) if over(str(region), its)]
                    self.assertEqual(found, [cell], (lands, cell))
                    self.assertEqual(just_over(tuple(sorted(cell)), lands), region)

    def test_just_over_refused(self):
        for value in odd_values() + [(), [], ["b", "a"], "a", ["a", "a"], ["A"], A]:
            self.refused(BadWorld("cell"), just_over, value, ["a", "b"])
            self.refused(BadWorld("cell"), just_over, value, None)
        for value in odd_values() + [["a", "b", "a"], "ab", ["a", "B"], {"a": 1}, [A]]:
            self.refused(BadWorld("lands"), just_over, ["a"], value)
        self.refused(BadWorld("lands"), just_over, ["c"], ["a", "a"])
        self.refused(NoLand("c"), just_over, ["a", "c", "d"], ["b", "a"])
        self.refused(NoLand("a"), just_over, ["a"], [])
        self.refused(NoLand("f"), just_over, ["a", "f"], list("abcde"))
        self.refused(TooMany("lands", 4), just_over, ["a"], list("abcde"))

    def test_sum_of(self):
        for many in range(1, 5):
            for lands in itertools.permutations("abcd", many):
                region = sum_of(list(lands))
                self.assertLessEqual(region.depth, 2)
                self.assertEqual(set(region.lands), set(lands))
                for cell in cells_over("abcde"):
                    self.assertEqual(bool(over(str(region), cell)), bool(cell & set(lands)))
                self.assertEqual(sum_of(lands), region)

    def test_sum_of_refused(self):
        for value in odd_values() + [[], (), ["a", "b", "a"], "ab", ["a", "B"], {"a": 1}, [A], ["a"] * 5]:
            self.refused(BadWorld("lands"), sum_of, value)
        self.refused(TooMany("lands", 4), sum_of, list("abcde"))
