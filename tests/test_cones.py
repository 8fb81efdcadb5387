"""The greatest lots of sized books."""

from borderwords.books import Book
from borderwords.cones import Greatest, greatest
from borderwords.errors import BadSize
from borderwords.papers import Paper
from borderwords.sizes import SizedBook
from tests.support import Case, chances, names_of, odd_values
from tests.weighing import Told, is_right_greatest, some_told

NO_SIZED = [Book(["a"]), "a :", ((), ()), SizedBook, {"a": 1}, Greatest([], [])]


class TestGreatest(Case):
    """greatest."""

    def told_right(self, told):
        sized = told.sized()
        found = greatest(sized)
        self.assertTrue(is_right_greatest(told, found), (told, found.parts))
        self.assertIs(type(found), Greatest)
        self.assertEqual((found.word, bool(found), len(found.parts)), ("greatest", True, 2))
        self.assertEqual(greatest(sized=sized), found)
        self.assertEqual(greatest(told.sized()), found)
        return found

    def test_some(self):
        chance = chances(401)
        many = []
        for lands in ("a", "ab", "abc", "abcd"):
            for _ in range(60):
                told = some_told(chance, lands)
                many.append(len(told.cells) - len(self.told_right(told).lengths))
        self.assertGreater(many.count(0), 20)
        self.assertGreater(len([one for one in many if one > 1]), 20)

    def test_no_sayings(self):
        for lands in ("a", "abcd"):
            found = self.told_right(Told(lands, []))
            self.assertEqual((len(found.lengths), found.weights), (2 ** len(lands), ()))

    def test_only_the_empty_cell_is_left(self):
        """Each book lets it, with worths of 0: so no greatest lot of a book is empty."""
        for lands in ("a", "ab", "abcd"):
            sums = [(False, [(land, -1)]) for land in lands]
            self.assertEqual([cell for cell, load in self.told_right(Told(lands, [], sums)).lengths], [()])

    def test_whole(self):
        told = Told("abcd", [], [(True, [("a", 9), ("b", -9)]), (False, [("b", 9), ("c", -9)]),
                                 (False, [("c", 9), ("d", -9)]), (False, [("d", 9), ("a", -8)])])
        self.assertEqual([cell for cell, load in self.told_right(told).lengths], [names_of(cell) for cell in told.cells])

    def test_round_about(self):
        """Sizes that must be equal, since each is at least the next one: what would make one greater falls away."""
        told = Told("abcd", ["a deep b", "b deep c", "c deep d"], [(False, [("a", 1), ("d", -1)])])
        self.assertEqual([cell for cell, load in self.told_right(told).lengths], [(), ("a", "b", "c", "d")])

    def test_errors(self):
        for value in odd_values() + NO_SIZED:
            self.refused(BadSize("sized"), greatest, value)

    def test_paper(self):
        paper = Greatest(lengths=[[[], 1]], weights=[2])
        self.assertEqual((paper.lengths, paper.weights, paper.parts), ((((), 1),), (2,), ((((), 1),), (2,))))
        self.assertIsInstance(paper, Paper)
        self.assertTrue(paper)
