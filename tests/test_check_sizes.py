"""Which papers of sizes are right."""

from borderwords.check_sizes import shows_greatest, shows_share, shows_sized, shows_sized_row, shows_sure_size
from borderwords.cones import Greatest, greatest
from borderwords.errors import BadSize, NoLand, Twice
from borderwords.papers import Denial, Paper
from borderwords.regions import Land
from borderwords.shares import Endless, Neared, Reached, Share, share
from borderwords.sized import AgainstNeed, NotAbove, Sized, SureSize, possible_sized, sure_size
from borderwords.sizedrows import NoSizedRow, SizedRow, sized_on_one_row
from borderwords.sizes import Above, AtLeast
from borderwords.worlds import World
from tests.support import Case, as_lists, below, bent, chances, odd_values
from tests.test_cones import NO_SIZED
from tests.test_sized import DEEP, NEVER
from tests.test_sizedrows import ISLANDS
from tests.weighing import (
    Told, is_right_greatest, is_right_share, is_right_sized, is_right_sized_row, is_right_sure_size, made_counts,
    some_sum, some_told)

FULL = Told("abc", ["a deep b", "c deep b", "a apart c"], [(False, [("a", 1), ("c", 1), ("b", -1)])])
BOTH = Told("abc", FULL.texts, [(True, [("a", 2), ("b", -1)]), (True, [("c", 2), ("b", -1)])])
TOLD = [DEEP, NEVER, FULL, BOTH, Told("a", []), Told("ab", ["a deep b", "b deep a"]), Told("abc", ISLANDS),
        Told("ab", ["a same b"], [(True, [("a", 1), ("b", -1)]), (False, [("a", 9)])])]


class Checks(Case):
    """A check function, and the definition beside it."""

    def agrees(self, check, right, values, value):
        wanted = bool(right(*values, value))
        sized = values[0].sized()
        if right is is_right_sure_size:
            passed = (sized, (Above if values[1] else AtLeast)(made_counts(values[2])))
        else:
            passed = (sized,) + values[1:]
        self.assertIs(check(*passed, value), wanted, (values, getattr(value, "parts", value)))
        return wanted

    def bends(self, check, right, values, paper):
        self.assertTrue(self.agrees(check, right, values, paper))
        met = [self.agrees(check, right, values, value) for value in bent(paper)]
        self.assertTrue(self.agrees(check, right, values, type(paper)(*as_lists(paper.parts))))
        self.assertFalse(self.agrees(check, right, values, below(paper)))
        for value in odd_values():
            self.agrees(check, right, values, value)
            for at in range(len(paper.parts)):
                self.agrees(check, right, values, type(paper)(*paper.parts[:at], value, *paper.parts[at + 1:]))
        self.assertFalse(self.agrees(check, right, values, Paper(paper.word, *paper.parts)))
        self.assertFalse(self.agrees(check, right, values, Denial(paper.word, *paper.parts)))
        return met

    def some(self, number, many=6):
        chance = chances(number)
        return TOLD + [some_told(chance, lands) for lands in ("ab", "abc") for _ in range(many)]

    def test_greatest(self):
        for told in self.some(441):
            self.bends(shows_greatest, is_right_greatest, (told,), greatest(told.sized()))
        for loads, weights in (([[[], 1], [["a", "b"], 2], [["b", "c"], 2]], [3]), ([[[], 1]], [1]), ([], [0]),
                               ([[[], 1], [["a", "b"], 9], [["b", "c"], 1]], [1]), ([[[], 7]], [0])):
            self.agrees(shows_greatest, is_right_greatest, (FULL,), Greatest(loads, weights))

    def test_weights_need_not_be_least(self):
        found = greatest(FULL.sized())
        for times in (2, 100, 10 ** 30):
            paper = Greatest([(cell, load * times) for cell, load in found.lengths],
                             [weight * times for weight in found.weights])
            self.assertTrue(self.agrees(shows_greatest, is_right_greatest, (FULL,), paper))

    def test_sized(self):
        for told in self.some(442):
            self.bends(shows_sized, is_right_sized, (told,), possible_sized(told.sized()))

    def test_other_needs_and_numbers(self):
        self.assertTrue(self.agrees(shows_sized, is_right_sized, (BOTH,), NotAbove(1, [1, 1])))
        self.assertTrue(self.agrees(shows_sized, is_right_sized, (BOTH,), NotAbove(0, [5, 5])))
        self.assertFalse(self.agrees(shows_sized, is_right_sized, (BOTH,), NotAbove(0, [2, 1])))
        met = []
        for told in TOLD:
            for need, has in told.needs:
                for weights in ([0], [1], [2], [], [1, 1], [0, 0], [1, 0], [0, 1]):
                    met.append(self.agrees(shows_sized, is_right_sized, (told,), AgainstNeed(need, weights)))
                    self.agrees(shows_sized, is_right_sized, (told,), NotAbove(0, weights))
        self.assertGreater(min(met.count(True), met.count(False)), 3)

    def test_lengths(self):
        for text, lengths in (("b a+b b -", [[1, 3, 2, 5]]), ("b a+b b", [[1, 1, 1]]), ("b a+b b", [[1, 2, 1]]),
                              ("b a+b", [[1, 9]]), ("a+b / b", [[1], [1]]), ("a+b b c", [[1, 1, 1]]), ("b", [[1]]),
                              ("b a+b b", [[0, 3, 0]]), ("b a+b b", [[1, 3]]), ("b a+b b", [[1, True, 1]])):
            self.agrees(shows_sized, is_right_sized, (DEEP,), Sized(World.read(text), lengths))

    def test_sure_size(self):
        chance = chances(443)
        met = []
        for told in self.some(444):
            saying = some_sum(chance, told.lands)
            if possible_sized(told.sized()):
                paper = sure_size(told.sized(), (Above if saying[0] else AtLeast)(made_counts(saying[1])))
                met.append(type(paper))
                self.bends(shows_sure_size, is_right_sure_size, (told, *saying), paper)
        self.assertGreater(min(met.count(SureSize), met.count(Sized)), 1)

    def test_a_sized_book_that_is_not_possible(self):
        """Its denial, with a weight of 0 more, shows everything sure."""
        denial = possible_sized(NEVER.sized())
        for saying in ((True, [("a", 1)]), (False, [("a", 1), ("b", -3)])):
            for weights in (denial.weights + (0,), denial.weights, denial.weights + (0, 0), (0,) + denial.weights):
                for paper in (AgainstNeed(denial.parts[0], weights), NotAbove(0, weights), NotAbove(1, weights)):
                    self.agrees(shows_sure_size, is_right_sure_size, (NEVER, *saying), SureSize(paper))
                    self.agrees(shows_sure_size, is_right_sure_size, (NEVER, *saying), paper)

    def test_sized_row(self):
        for told in self.some(445, 4):
            self.bends(shows_sized_row, is_right_sized_row, (told,), sized_on_one_row(told.sized()))

    def test_other_rows(self):
        told = Told("abc", ISLANDS)
        cells, ac, bc = [[], ["a", "c"], ["b", "c"]], [["a", "c"]], [["b", "c"]]
        rows = [[cells, [], None], [[[]], [], ("land", "a")], [ac, [], ("land", "b")], [bc, [], ("one", 3)]]
        papers = [rows, rows + rows[1:], rows[::-1], rows[:3], rows[:1] + rows[:0:-1], rows + [[[], [], ("land", "a")]],
                  rows + [[[], [], None]], [[cells, [], ("land", "a")]], rows[1:], [rows[0]] * 2 + rows[1:],
                  rows[:1] + [[ac, [], None]] + rows[1:], rows + [[cells[:2], [], ("one", 1)]],
                  rows + [[cells[1::-1], [], ("one", 1)]], rows + [[ac + ac, [], ("one", 1)]],
                  rows + [[[["a"]], [], ("one", 1)]], [[[], [], ("land", "a")]], [[cells, [0], None]] + rows[1:]]
        met = [self.agrees(shows_sized_row, is_right_sized_row, (told,), NoSizedRow(paper)) for paper in papers]
        self.assertGreater(min(met.count(True), met.count(False)), 3)
        for world, lengths in (("a+c / b+c", [[1], [1]]), ("a+c b+c", [[1, 1]]), ("a+c", [[1]])):
            self.agrees(shows_sized_row, is_right_sized_row, (told,), SizedRow(World.read(world), lengths))

    def test_what_falls_away(self):
        """A lot from which nothing is barred falls apart in two; of another one a joined part is left alone."""
        two = Told("ab", ["a deep b"], [(False, [("a", 1), ("b", -1)])])
        cells, left = [[], ["b"], ["a", "b"]], [[], ["a", "b"]]
        last = [[[[]], [0], ("land", "a")], [[["a", "b"]], [0], ("beyond", 0)]]
        rows = [[[cells, [1], None]] + last, [[cells, [1], None], [left, [0], None]] + last,
                [[cells, [1], ("beyond", 0)]], [[cells, [0], None]] + last, [[cells, [1], None], last[1]],
                [[cells, [0], None], [cells, [1], ("beyond", 0)]], [[cells, [1], None], [left, [0], None], last[0]]]
        met = [self.agrees(shows_sized_row, is_right_sized_row, (two,), NoSizedRow(row)) for row in rows]
        self.assertEqual(met, [True, True, True, False, False, False, False])
        one = Told("ab", [], [(False, [("a", -1)])])
        cells, left = [[], ["a"], ["b"], ["a", "b"]], [[], ["b"]]
        last = [left, [0], ("land", "a")]
        rows = [[[cells, [1], None], last], [[cells, [1], None]], [[cells, [1], None], [left, [5], None], last],
                [[cells, [1], None], [left, [0], None], last], [[cells, [1], None], last, [[], [0], ("one", 1)]]]
        met = [self.agrees(shows_sized_row, is_right_sized_row, (one,), NoSizedRow(row)) for row in rows]
        self.assertEqual(met, [True, False, False, False, False])

    def test_share(self):
        for told in self.some(446, 4):
            if len(told.lands) > 1 and possible_sized(told.sized()):
                for one, other in (("a", "b"), ("b", "a")):
                    paper = share(told.sized(), one, other)
                    self.bends(shows_share, is_right_share, (told, one, other), paper)
                    turned = Share(paper.high, paper.low, paper.world, paper.lengths)
                    self.agrees(shows_share, is_right_share, (told, one, other), turned)
                    self.agrees(shows_share, is_right_share, (told, other, one), paper)

    def test_bounds_beyond_which_all_lies_are_not_enough(self):
        paper = share(DEEP.sized(), "a", "b")
        lows = [Neared(1, 3, [1, 1], [], paper.high.no), Reached(2, 4, *paper.low.parts[2:]),
                Neared(1, 2, *paper.high.parts[2:]), Neared(0, 1, [0, 1], [(("b",), 1)], paper.high.no),
                Endless([(("b",), 1)]), Reached(1, 2, [2, 2], *paper.low.parts[3:]), Reached(1, 2, (1, 0), *paper.low.parts[3:])]
        highs = [Endless([]), Endless([(("a", "b"), 1)]), Endless([((), 1)]), paper.low, Endless([(("a",), 1)]),
                 Neared(1, 1, [0, 7], *paper.high.parts[3:]), Neared(1, 1, *paper.high.parts[2:4], NotAbove(0, [0, 1])),
                 Neared(1, 1, *paper.high.parts[2:4], NotAbove(1, paper.high.weights)),
                 Neared(1, 1, *paper.high.parts[2:4], AgainstNeed(("beyond", 0), paper.high.weights))]
        for low in lows + [paper.low]:
            for high in highs + [paper.high]:
                value = Share(low, high, paper.world, paper.lengths)
                self.agrees(shows_share, is_right_share, (DEEP, "a", "b"), value)

    def test_errors(self):
        sized = DEEP.sized()
        for value in odd_values() + NO_SIZED:
            for check in (shows_greatest, shows_sized, shows_sized_row):
                self.refused(BadSize("sized"), check, value, None)
            self.refused(BadSize("sized"), shows_sure_size, value, value, None)
            self.refused(BadSize("sized"), shows_share, value, value, value, None)
            self.refused(BadSize("saying"), shows_sure_size, sized, value, None)
        for value in odd_values() + ["c"]:
            self.refused(NoLand(value), shows_share, sized, value, "c", None)
            self.refused(NoLand(value), shows_share, sized, "a", value, None)
        self.refused(NoLand("c"), shows_sure_size, sized, AtLeast([(Land("c"), 1)]), None)
        self.refused(Twice("a"), shows_share, sized, "a", "a", None)

    def test_by_name_and_never_impossible(self):
        sized = NEVER.sized()
        paper = possible_sized(sized)
        self.assertIs(shows_sized(value=paper, sized=sized), True)
        self.assertIs(shows_greatest(value=paper, sized=sized), False)
        self.assertIs(shows_sized_row(value=paper, sized=sized), False)
        self.assertIs(shows_sure_size(value=paper, saying=AtLeast([(Land("a"), 1)]), sized=sized), False)
        self.assertIs(shows_share(value=paper, other="b", one="a", sized=sized), False)
