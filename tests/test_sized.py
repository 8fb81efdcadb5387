"""Whether sized books are possible, and what they make sure."""

from borderwords.books import Book
from borderwords.cones import greatest
from borderwords.errors import BadRegion, BadSize, Impossible, NoLand
from borderwords.papers import Denial, Paper
from borderwords.regions import Land, Region
from borderwords.sized import AgainstNeed, NotAbove, Sized, SureSize, possible_sized, sure_size, words_left
from borderwords.sizes import Above, AtLeast, SizedBook
from tests.support import EIGHT, Case, chances, odd_values, some_region_text
from tests.test_cones import NO_SIZED
from tests.weighing import (
    Told, contrary, is_above_by_some_loads, is_right_denial, is_right_sized, is_right_sure_size, made_counts, some_sum,
    some_told)

DEEP = Told("ab", ["a deep b"], [(False, [("a", 2), ("b", -1)])])
NEVER = Told("ab", ["a deep b"], [(True, [("a", 1), ("b", -1)])])


class PossibleSized(Case):
    """possible_sized."""

    def told_right(self, told):
        found = possible_sized(told.sized())
        self.assertTrue(is_right_sized(told, found), (told, found.parts))
        self.assertEqual(possible_sized(sized=told.sized()), found)
        self.assertIn(type(found), (Sized, AgainstNeed, NotAbove))
        if type(found) is Sized:
            self.assertLessEqual(len(found.world), 1400)
            self.assertTrue(found and told.sized().keeps(found.world, found.lengths))
            return found
        self.assertFalse(found)
        lot = [frozenset(cell) for cell, load in greatest(told.sized()).lengths]
        against = [need for need, has in told.needs
                   if not any(has(p, q) and p in lot and q in lot for p, q in told.let)]
        if type(found) is AgainstNeed:
            self.assertEqual(found.need, against[0])
        else:
            self.assertEqual(against, [])
            numbers = [at for at, (is_above, counts) in enumerate(told.sums)
                       if is_above and not is_above_by_some_loads(told, at)]
            self.assertEqual(found.number, numbers[0])
        return found

    def test_some(self):
        chance = chances(411)
        met = [type(self.told_right(some_told(chance, lands))) for lands in ("a", "ab", "abc", "abc", "abcd")
               for _ in range(50)]
        self.assertGreater(min(met.count(kind) for kind in (Sized, AgainstNeed, NotAbove)), 5)

    def test_just_at_0(self):
        """An AtLeast may be 0, an Above not: a is all of b."""
        same = [("a", 1), ("b", -1)]
        self.assertIs(type(self.told_right(Told("ab", ["a same b"], [(False, same)]))), Sized)
        self.assertIs(type(self.told_right(Told("ab", ["a same b"], [(True, same)]))), NotAbove)
        self.assertIs(type(self.told_right(Told("ab", ["a deep b"], [(False, same)]))), AgainstNeed)
        self.assertIs(type(self.told_right(Told("ab", ["a deep b"], [(True, [("b", 1), ("a", -1)])]))), Sized)
        halves = [(False, [("a", 2), ("b", -1)]), (False, [("b", 1), ("a", -2)])]
        self.assertIs(type(self.told_right(Told("ab", ["a deep b"], halves))), Sized)
        self.assertIs(type(self.told_right(Told("ab", ["a deep b"], halves + [(True, [("a", 2), ("b", -1)])]))), NotAbove)

    def test_counts_of_9(self):
        sums = [(False, [("a", 9), ("b", -1)]), (False, [("b", 1), ("a", -9)]), (True, [("c", 9), ("+ a b", -9)])]
        self.assertIs(type(self.told_right(Told("abc", ["a apart b"], sums))), Sized)
        self.assertIs(type(self.told_right(Told("abc", ["a apart b", "c deep a"], sums))), AgainstNeed)

    def test_the_first_number(self):
        never = (True, [("a", -1), ("a", 0)][:1])
        told = Told("ab", [], [(False, [("a", 0)]), (True, [("b", 1)]), (True, [("a", 0)]), (True, [("* a b", 0)])])
        self.assertEqual(self.told_right(told).number, 2)
        self.assertEqual(self.told_right(Told("ab", [], [never])).need, ("land", "a"))

    def test_books_that_are_not_possible(self):
        for texts in (["a deep b", "b deep a"], ["! a"], ["a apart a"]):
            for sums in ([], [(False, [("a", 1)])]):
                found = self.told_right(Told("ab", texts, sums))
                self.assertIs(type(found), AgainstNeed)
                self.assertEqual(found.need, possible_sized(Told("ab", texts).sized()).need)

    def test_long_books(self):
        told = Told("abcd", ["a rim b", "b rim c", "c rim d", "a rim c", "b rim d", "a rim d", "a rim + b c",
                             "- b a overlaps - c + a b", "- d c meets a", "a meets - b a"],
                    [(True, [("a", 1), ("- b a", -1)]), (True, [("- b a", 1), ("- c b", -1)]),
                     (True, [("- c b", 1), ("- d c", -1)]), (False, [("a", -1), ("- b a", 2), ("d", -1), ("c", 1)])])
        self.told_right(told)

    def test_errors(self):
        for value in odd_values() + NO_SIZED:
            self.refused(BadSize("sized"), possible_sized, value)


class WordsLeft(Case):
    """words_left."""

    def test_some(self):
        chance = chances(412)
        for lands in ("a", "ab", "abc", "abcd"):
            for _ in range(12):
                told = some_told(chance, lands, sayings=2)
                x, y = some_region_text(chance, lands), some_region_text(chance, lands)
                denial = possible_sized(told.sized())
                if not denial:
                    self.refused(Impossible(denial), words_left, told.sized(), Region.read(x), Region.read(y))
                    continue
                wanted = [word for word in EIGHT if possible_sized(told.with_text(f"{x} {word} {y}").sized())]
                if any(possible_sized(told.with_text("! " + text).sized()) for text in (x, y)):
                    wanted.append("nowhere")
                found = words_left(told.sized(), one=Region.read(x), other=Region.read(y))
                self.assertEqual(found, tuple(wanted))

    def test_sizes_bear_on_words(self):
        told = Told("ab", [], [(True, [("a", 1), ("b", -1)])])
        a, b = Land("a"), Land("b")
        self.assertEqual(words_left(told.sized(), a, b), ("apart", "meets", "overlaps", "holdsdeep", "holdsrim"))
        self.assertEqual(words_left(told.sized(), Region.read("- a b"), b), ("apart", "meets"))
        self.assertEqual(words_left(told.sized(), Region.read("- b a"), a), ("apart", "meets", "nowhere"))
        self.assertEqual(words_left(told.sized(), a, Region.read("- a a")), ("nowhere",))

    def test_ten_sayings(self):
        told = Told("ab", ["a deep b"] * 10, DEEP.sums)
        self.assertEqual(words_left(told.sized(), Land("a"), Land("b")), ("deep",))

    def test_errors(self):
        a, c, sized = Land("a"), Region.read("+ c d"), DEEP.sized()
        for value in odd_values() + NO_SIZED:
            self.refused(BadSize("sized"), words_left, value, value, value)
        for value in odd_values() + ["a", sized]:
            self.refused(BadRegion("one"), words_left, sized, value, None)
            self.refused(BadRegion("other"), words_left, sized, c, value)
        self.refused(NoLand("c"), words_left, sized, c, Land("e"))
        self.refused(NoLand("e"), words_left, sized, a, Land("e"))
        self.refused(NoLand("e"), words_left, NEVER.sized(), a, Land("e"))
        self.refused(Impossible(possible_sized(NEVER.sized())), words_left, NEVER.sized(), a, a)


class SureSizes(Case):
    """sure_size."""

    def told_right(self, told, is_above, counts):
        saying = (Above if is_above else AtLeast)(made_counts(counts))
        found = sure_size(told.sized(), saying)
        self.assertTrue(is_right_sure_size(told, is_above, counts, found), (told, is_above, counts, found.parts))
        self.assertEqual(sure_size(sized=told.sized(), saying=saying), found)
        self.assertTrue(found)
        if type(found) is SureSize:
            further = told.with_sum(*contrary(is_above, counts))
            if len(further.sums) <= 4:
                self.assertEqual(found.paper, possible_sized(further.sized()))
        return found

    def test_some(self):
        chance = chances(413)
        met = []
        for lands in ("a", "ab", "abc", "abcd"):
            for _ in range(40):
                told, (is_above, counts) = some_told(chance, lands, sayings=2), some_sum(chance, lands)
                denial = possible_sized(told.sized())
                if denial:
                    met.append(type(self.told_right(told, is_above, counts)))
                else:
                    saying = AtLeast(made_counts(counts))
                    self.refused(Impossible(denial), sure_size, told.sized(), saying)
        self.assertGreater(min(met.count(SureSize), met.count(Sized)), 20)

    def test_what_is_deep_is_less(self):
        told = Told("ab", ["a deep b"])
        self.assertIs(type(self.told_right(told, True, [("b", 1), ("a", -1)])), SureSize)
        self.assertIs(type(self.told_right(told, False, [("b", 1), ("a", -2)])), Sized)
        self.assertIs(type(self.told_right(told, True, [("a", 1)])), SureSize)
        self.assertIs(type(self.told_right(told, False, [("a", 0)])), SureSize)
        self.assertIs(type(self.told_right(told, True, [("a", 0)])), Sized)

    def test_weights_add_up(self):
        """All size sayings, each times a weight, added up, are kept; four of them can be asked, too."""
        told = Told("abcd", ["a apart b", "c apart d"], [(False, [("a", 2), ("b", -3)]), (False, [("b", 5), ("c", -7)]),
                                                         (False, [("c", 1), ("d", -1)]), (True, [("d", 9)])])
        self.assertIs(type(self.told_right(told, False, [("a", 2), ("d", -4)])), SureSize)
        self.assertIs(type(self.told_right(told, False, [("a", 2), ("d", -5)])), Sized)
        self.assertEqual(len(sure_size(told.sized(), AtLeast([(Land("a"), 1)])).paper.weights), 5)

    def test_errors(self):
        sized = DEEP.sized()
        for value in odd_values() + NO_SIZED:
            self.refused(BadSize("sized"), sure_size, value, value)
        for value in odd_values() + [sized, ((Land("a"), 1),), "atleast 1 a"]:
            self.refused(BadSize("saying"), sure_size, sized, value)
            self.refused(BadSize("saying"), sure_size, NEVER.sized(), value)
        saying = AtLeast(made_counts([("a", 1), ("+ d c", 1), ("* b e", 1)]))
        self.refused(NoLand("c"), sure_size, sized, saying)
        self.refused(NoLand("c"), sure_size, NEVER.sized(), saying)
        self.refused(NoLand("e"), sure_size, sized, Above(made_counts([("* b e", 1), ("+ d c", 1)])))
        self.refused(Impossible(possible_sized(NEVER.sized())), sure_size, NEVER.sized(), Above([(Land("a"), 1)]))


class Papers(Case):
    """Sized, AgainstNeed, NotAbove, SureSize."""

    def test_parts(self):
        for kind, parts, names in ((Sized, (1, [[2]]), ("world", "lengths")), (NotAbove, (1, [2]), ("number", "weights")),
                                   (AgainstNeed, (["land", "a"], [2]), ("need", "weights")), (SureSize, ([1],), ("paper",))):
            paper = kind(*parts)
            self.assertEqual(paper, kind(**dict(zip(names, parts))))
            self.assertEqual(paper.parts, tuple(vars(paper)[name] for name in names))
            self.assertEqual((paper.word, bool(paper)), (kind.__name__.lower(), kind in (Sized, SureSize)))
            self.assertIs(isinstance(paper, Denial), not paper)
            self.assertIsInstance(paper, Paper)
            self.assertNotIn("[", repr(paper.parts))

    def test_denials_show_it(self):
        """No world and lengths that keep it come of many tries."""
        chance = chances(414)
        for _ in range(30):
            told = some_told(chance, "ab")
            found = possible_sized(told.sized())
            if not found:
                self.assertTrue(is_right_denial(told, found))

    def test_a_book_alone(self):
        sized = SizedBook(Book(["a"]))
        self.assertEqual(str(possible_sized(sized).world.lands), "('a',)")
