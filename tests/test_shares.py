"""How great the size of one land can be beside that of another one."""

from fractions import Fraction

from borderwords.errors import BadSize, Impossible, NoLand, Twice
from borderwords.papers import Denial, Paper
from borderwords.shares import Endless, Neared, Reached, Share, share
from borderwords.sized import possible_sized
from tests.support import Case, chances, odd_values
from tests.test_cones import NO_SIZED
from tests.test_sized import DEEP, NEVER
from tests.weighing import Told, is_right_share, some_told


class Shares(Case):
    """share."""

    def told_right(self, told, one="a", other="b"):
        found = share(told.sized(), one, other)
        self.assertTrue(is_right_share(told, one, other, found), (told, one, other, found.parts))
        self.assertEqual(share(sized=told.sized(), one=one, other=other), found)
        self.assertIs(type(found), Share)
        self.assertLessEqual(len(found.world), 1400)
        return found

    def bounds(self, found):
        """The bounds as fractions, None for no high one, and whether they are reached."""
        high = None if type(found.high) is Endless else Fraction(found.high.number, found.high.by)
        return (Fraction(found.low.number, found.low.by), high, type(found.low) is Reached, type(found.high) is Reached)

    def test_some(self):
        chance = chances(431)
        met = []
        for lands in ("ab", "abc", "abcd"):
            for _ in range(60):
                told = some_told(chance, lands, sayings=2)
                denial = possible_sized(told.sized())
                if not denial:
                    self.refused(Impossible(denial), share, told.sized(), "a", "b")
                    continue
                found = self.told_right(told)
                low, high, is_low, is_high = self.bounds(found)
                met.extend([type(found.low), type(found.high)])
                back = self.bounds(self.told_right(told, "b", "a"))
                self.assertEqual(back, (1 / high if high else Fraction(0), 1 / low if low else None, is_high, is_low))
        self.assertGreater(min(met.count(kind) for kind in (Reached, Neared, Endless)), 3)

    def test_bounds(self):
        def fraction(*numbers):
            return Fraction(*numbers)

        rows = [
            (Told("ab", []), (0, None, False, False)),
            (Told("ab", ["a same b"]), (1, 1, True, True)),
            (Told("ab", ["a deep b"]), (0, 1, False, False)),
            (Told("ab", ["a overlaps b"]), (0, None, False, False)),
            (DEEP, (fraction(1, 2), 1, True, False)),
            (Told("ab", [], [(True, [("a", 2), ("b", -1)])]), (fraction(1, 2), None, False, False)),
            (Told("ab", [], [(False, [("a", 9), ("b", -7)]), (False, [("a", -8), ("b", 9)])]),
             (fraction(7, 9), fraction(9, 8), True, True)),
            (Told("ab", ["a apart b"], [(False, [("a", 9), ("b", -9)]), (False, [("a", -9), ("b", 9)])]),
             (1, 1, True, True)),
            (Told("abc", ["a deep b"], [(False, [("a", 9), ("c", -1)]), (False, [("c", 9), ("b", -1)])]),
             (fraction(1, 81), 1, True, False)),
            (Told("abcd", [], [(False, [("a", 9), ("c", -8)]), (False, [("c", 7), ("d", -9)]),
                               (False, [("d", 8), ("b", -9)])]), (fraction(8 * 9 * 9, 9 * 7 * 8), None, True, False)),
        ]
        for told, wanted in rows:
            self.assertEqual(self.bounds(self.told_right(told)), wanted, told)

    def test_between(self):
        """Fractions strictly between the bounds are had, those beyond are not."""
        told = Told("ab", ["a rim b"], [(True, [("a", 3), ("b", -1)]), (False, [("b", 3), ("a", -4)])])
        low, high, is_low, is_high = self.bounds(self.told_right(told))
        self.assertEqual((low, high, is_low, is_high), (Fraction(1, 3), Fraction(3, 4), False, True))
        for number, by, wanted in ((1, 3, False), (2, 5, True), (5, 8, True), (3, 4, True), (4, 5, False), (1, 4, False)):
            just = [(False, [("a", by), ("b", -number)]), (False, [("a", -by), ("b", number)])]
            further = Told(told.lands, told.texts, told.sums + just)
            self.assertEqual(bool(possible_sized(further.sized())), wanted, (number, by))

    def test_other_lands_of_the_book(self):
        told = Told("abc", ["a deep b", "b deep c"], [(False, [("a", 3), ("c", -1)])])
        self.assertEqual(self.bounds(self.told_right(told, "a", "c")), (Fraction(1, 3), 1, True, False))
        self.assertEqual(self.bounds(self.told_right(told, "c", "b")), (1, 3, False, False))

    def test_errors(self):
        sized = DEEP.sized()
        for value in odd_values() + NO_SIZED:
            self.refused(BadSize("sized"), share, value, value, value)
        for value in odd_values() + ["c", ["a"], ("a",)]:
            self.refused(NoLand(value), share, sized, value, "c")
            self.refused(NoLand(value), share, sized, "a", value)
            self.refused(NoLand(value), share, NEVER.sized(), "a", value)
        self.refused(Twice("b"), share, sized, "b", "b")
        self.refused(Twice("b"), share, NEVER.sized(), "b", "b")
        self.refused(Impossible(possible_sized(NEVER.sized())), share, NEVER.sized(), "a", "b")

    def test_papers(self):
        for kind, names in ((Share, ("low", "high", "world", "lengths")), (Endless, ("near",)),
                            (Reached, ("number", "by", "weights", "world", "lengths")),
                            (Neared, ("number", "by", "weights", "near", "no"))):
            parts = [[at] for at in range(len(names))]
            paper = kind(*parts)
            self.assertEqual(paper, kind(**dict(zip(names, parts))))
            self.assertEqual(paper.parts, tuple(vars(paper)[name] for name in names))
            self.assertEqual((paper.word, bool(paper), paper.parts[0]), (kind.__name__.lower(), True, (0,)))
            self.assertTrue(isinstance(paper, Paper) and not isinstance(paper, Denial))
