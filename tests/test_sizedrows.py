"""Sized books on one row."""

from borderwords.alikes import just_over
from borderwords.errors import BadSize
from borderwords.papers import Denial, Paper
from borderwords.sized import possible_sized
from borderwords.fields import field_of
from borderwords.scales import Scale
from borderwords.sizedrows import NoSizedRow, SizedRow, sized_on_one_row, told_on_one_row
from tests.support import Case, borders_had, cell_order, chances, names_of, odd_values
from tests.test_cones import NO_SIZED
from tests.weighing import Told, is_right_sized_row, some_sum, some_told, sum_in, worth

# a in b and c in d, apart from one another: their cells are parts of their own.
ISLANDS = ["a deep c", "b deep c", "+ a b same c", "a apart b"]


# Books of several parts, some of which have all needs.
FALLING = [("abcd", ["* a b deep a", "- + a a * a b deep * a - c d"]), ("abcd", ["c deep a", "b holdsdeep a", "- b * b c deep b"]),
           ("abc", ["b deep a", "b rim - + c b - b a", "- a * a b deep a"])]


TWICE = [
    Told("abcd", ["c deep b", "a holdsdeep + * d b - b c", "a deep + b + a b"],
         [(True, [("* c a", 1), ("b", 1)]), (True, [("+ + a d - d b", -1), ("+ b * d d", 2)]), (True, [("d", 1)]),
          (False, [("a", -2), ("+ d - b b", 2)])]),
    Told("abcd", ["d apart c", "+ - a b - a c deep a", "a deep + + d c * d c"],
         [(False, [("+ - c a * c c", -2), ("- a d", 1), ("a", 1)]), (False, [("+ - b b d", 2)]), (False, [("c", 0)])]),
    Told("abcd", ["+ + a d + a a holdsdeep b", "+ a * a a apart d", "b holdsdeep - * b b - d c"],
         [(False, [("+ * d c d", -1), ("- c b", -2), ("b", 1)]), (True, [("* + a b - b c", 1), ("- d d", -9), ("d", 1)])]),
]


def region_at(cell):
    """The text of the region that lies over just this cell of a, b, c, d."""
    return str(just_over(sorted(cell), list("abcd")))


def scale_told(told):
    """The scale of what a sized book told by texts lets, without a need."""
    field = field_of(told.lands)
    let = sum(1 << at for at, (p, q) in enumerate(field.borders) if (frozenset(p), frozenset(q)) in told.let)
    sums = [({cell: worth(counts, cell) for cell in field.firsts}, is_above) for is_above, counts in told.sums]
    return Scale(field, let, [], sums)


def some_sums(chance, lands, texts):
    return Told(lands, texts, [some_sum(chance, lands, 2) for _ in range(chance.randint(1, 2))])


class SizedOnOneRow(Case):
    """sized_on_one_row."""

    def told_right(self, told):
        found = sized_on_one_row(told.sized())
        self.assertTrue(is_right_sized_row(told, found), (told, found.parts))
        self.assertEqual(sized_on_one_row(sized=told.sized()), found)
        if type(found) is SizedRow:
            self.assertTrue(found and possible_sized(told.sized()))
            self.assertLessEqual(len(found.world), 1400)
        else:
            lots = [row[0] for row in found.rows]
            self.assertEqual(len(lots), len(set(lots)))
            self.assertNotIn((), lots)
        return found

    def test_some(self):
        chance = chances(421)
        met = []
        for lands in ("a", "ab", "abc", "abc", "abcd"):
            for _ in range(40):
                met.append(type(self.told_right(some_told(chance, lands))))
        self.assertGreater(min(met.count(SizedRow), met.count(NoSizedRow)), 20)

    def test_some_with_made_regions(self):
        chance = chances(422)
        many = []
        for _ in range(80):
            told = some_told(chance, "abc", sums=chance.randint(0, 2), sayings=1)
            told = Told("abc", chance.sample(ISLANDS, 3) + told.texts, told.sums)
            many.append(len(getattr(self.told_right(told), "rows", ())))
        self.assertGreater(len([one for one in many if one > 1]), 10)

    def test_several_rows_but_not_one(self):
        told = Told("abc", ISLANDS)
        self.assertTrue(possible_sized(told.sized()))
        self.assertEqual(sorted(len(row[0]) for row in self.told_right(told).rows), [1, 1, 1, 3])

    def test_lots_that_fall_apart(self):
        chance = chances(423)
        met = []
        for lands, texts in FALLING:
            for _ in range(60):
                found = self.told_right(some_sums(chance, lands, texts))
                met.append(len([row for row in getattr(found, "rows", ()) if row[2] is None]))
        self.assertGreater(len([one for one in met if one > 0]), 3)

    def test_lots_that_fall_apart_twice(self):
        for told in TWICE:
            lots = [(len(cells), what) for cells, weights, what in self.told_right(told).rows]
            self.assertEqual([what for many, what in lots].count(None), 2)
            self.assertTrue(possible_sized(told.sized()))

    def test_lots_that_fall_apart_again_and_again(self):
        """Some borders, chosen as it comes, stand for those that a book lets: so lots fall apart in many steps."""
        chance = chances(424)
        steps, rows = [], []
        for _ in range(120):
            told = Told("abcd", [])
            told.cells = sorted(chance.sample(told.cells[1:], 12), key=cell_order)
            told.let = [(p, q) for p, q in told.let if p in told.cells and q in told.cells
                        and (p == q or chance.random() < 0.1)]
            told.needs = []
            for _ in range(2):
                counts = [(region_at(cell), chance.choice([-2, -1, 1, 2])) for cell in told.cells]
                told.sums += [(False, counts), (False, [(text, -count) for text, count in counts])]
            found = told_on_one_row(scale_told(told))
            if type(found) is NoSizedRow:
                self.assertTrue(is_right_sized_row(told, found), found.parts)
                steps.append(len([row for row in found.rows if row[2] is None]))
                continue
            rows.append(found)
            row, (lengths,) = [frozenset(cell) for cell in found.world.rows[0]], found.lengths
            self.assertTrue(all((p, q) in told.let or (q, p) in told.let for p, q in borders_had([row])))
            self.assertTrue(all(sum_in(found.world, found.lengths, counts) >= 0 for is_above, counts in told.sums))
            self.assertEqual(len(lengths), len(row))
        self.assertGreater(len(rows), 20)
        self.assertGreater(len([one for one in steps if one > 3]), 20)

    def test_book_that_is_not_possible(self):
        for texts in (["a deep b", "b deep a"], ["! a"]):
            found = self.told_right(Told("ab", texts))
            self.assertEqual(len(found.rows), 1)
            self.assertEqual(found.rows[0][1:], ((), possible_sized(Told("ab", texts).sized()).need))

    def test_above(self):
        found = self.told_right(Told("ab", [], [(False, [("a", 1)]), (True, [("b", 0)])]))
        self.assertEqual(found.rows[0][2], ("above", 1))

    def test_errors(self):
        for value in odd_values() + NO_SIZED:
            self.refused(BadSize("sized"), sized_on_one_row, value)

    def test_papers(self):
        row, none = SizedRow(world=1, lengths=[[2]]), NoSizedRow(rows=[[[[]], [1], None]])
        self.assertEqual((row.parts, row.world, row.lengths, row.word), ((1, ((2,),)), 1, ((2,),), "sizedrow"))
        self.assertEqual(none.rows, ((((),), (1,), None),))
        self.assertEqual((none.parts, none.word), ((none.rows,), "nosizedrow"))
        self.assertTrue(row and not none)
        self.assertTrue(isinstance(none, Denial) and isinstance(row, Paper) and not isinstance(row, Denial))
