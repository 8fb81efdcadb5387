"""Sayings."""

from borderwords.errors import BadRegion, BadSaying, BadText, BadWord, BadWorld, NoLand, Twice
from borderwords.regions import Land, Region
from borderwords.sayings import Nowhere, Says, Saying, require_saying, require_sayings
from borderwords.worlds import World
from tests.support import (
    EIGHT, Case, chances, item_by_trying, items_changed, keeps_by_definition, odd_values, rows_of, some_rows,
    some_saying_text)

A, B, C = Land("a"), Land("b"), Land("c")


class Making(Case):
    """What sayings keep, and what is refused."""

    def test_says(self):
        one, other = Region.read("+ d b"), Region.read("- a b")
        says = Says(one, ["holdsrim", "apart", "deep"], other)
        self.assertEqual((says.one, says.words, says.other), (one, ("apart", "deep", "holdsrim"), other))
        self.assertEqual(says.lands, ("a", "b", "d"))
        self.assertEqual(Says(other=other, words=("deep",), one=one).words, ("deep",))
        self.assertEqual(Says(A, EIGHT[1:], B).words, EIGHT[1:])
        self.assertEqual(Says(A, EIGHT[6::-1], A).words, EIGHT[:7])
        self.assertTrue(issubclass(Says, Saying) and issubclass(Nowhere, Saying))

    def test_nowhere(self):
        nowhere = Nowhere(region=Region.read("+ d b"))
        self.assertEqual((nowhere.region, nowhere.lands), (Region.read("+ d b"), ("b", "d")))

    def test_errors_in_order(self):
        for value in odd_values() + ["a", ["a"], Nowhere(A)]:
            self.refused(BadRegion("one"), Says, value, ["deep"], B)
            self.refused(BadRegion("one"), Says, value, value, value)
            self.refused(BadRegion("one"), Says, value, ["deep", "deep"], B)
            self.refused(BadRegion("other"), Says, A, ["deep"], value)
            self.refused(BadRegion("other"), Says, A, [], value)
            self.refused(BadRegion("region"), Nowhere, value)
        for value in odd_values() + [[], (), "deep", "deep|rim", ["deep", "Rim"], ["deep", 1], EIGHT, ["deep"] * 8,
                                     ["deep|rim"], {"deep": 1}, {"deep"}, [["deep"]], ["deep", None], ["nowhere"]]:
            self.refused(BadWord("words"), Says, A, value, B)
        self.refused(Twice("rim"), Says, A, ["deep", "rim", "apart", "rim", "deep"], B)
        self.refused(Twice("deep"), Says, A, ["deep"] * 7, B)

    def test_what_is_passed_may_be_changed(self):
        words = ["deep", "rim"]
        says = Says(A, words, B)
        words.append("same")
        words[0] = "apart"
        self.assertEqual(says.words, ("deep", "rim"))

    def test_required(self):
        for value in odd_values() + ["a deep b", Saying, Saying(), A]:
            self.refused(BadSaying("told"), require_saying, value, "told")
            self.refused(BadSaying("told"), require_sayings, [Nowhere(A), value], "told")
        self.refused(BadSaying("told"), require_sayings, Nowhere(A), "told")
        self.refused(BadSaying("told"), require_sayings, {Land: 1}, "told")


class Keeping(Case):
    """Which worlds keep a saying."""

    def test_by_definition(self):
        chance = chances(7)
        kept = []
        for _ in range(600):
            world = World(some_rows(chance, "abc"))
            text = some_saying_text(chance, world.lands)
            wanted = keeps_by_definition(rows_of(world), text)
            self.assertIs(Saying.read(text).is_kept(world), wanted, (str(world), text))
            kept.append(wanted)
        self.assertGreater(min(kept.count(True), kept.count(False)), 100)

    def test_regions_that_lie_nowhere(self):
        world = World.read("a b")
        for text in ("* a b apart|meets|overlaps|same|deep|rim|holdsrim a", "a apart * a b", "- a a same - a a", "! a"):
            self.assertIs(Saying.read(text).is_kept(world), False, text)
        self.assertIs(Saying.read("! * a b").is_kept(world), True)

    def test_one_and_seven_words(self):
        world = World.read("a b")
        for word in EIGHT:
            others = [its for its in EIGHT if its != word]
            self.assertIs(Says(A, [word], B).is_kept(world), word == "meets")
            self.assertIs(Says(A, others, B).is_kept(world), word != "meets")
            self.assertIs(Says(A, [word], A).is_kept(world), word == "same")

    def test_refused(self):
        world = World.read("a b")
        for saying in (Says(A, ["deep"], B), Nowhere(A)):
            for value in odd_values() + ["a b", [[["a"]]]]:
                self.refused(BadWorld("world"), saying.is_kept, value)
            self.assertIs(saying.is_kept(world=world), False)
        self.refused(NoLand("c"), Saying.read("d deep c").is_kept, world)
        self.refused(NoLand("c"), Saying.read("+ b d deep + c a").is_kept, world)
        self.refused(NoLand("d"), Saying.read("! - a + e d").is_kept, world)


class Turning(Case):
    """The same told the other way about."""

    def test_turned(self):
        says = Saying.read("+ a b apart|deep|rim|holdsrim c")
        self.assertEqual(str(says.turned()), "c apart|rim|holdsdeep|holdsrim + a b")
        self.assertEqual(says.turned().turned(), says)
        self.assertEqual(Nowhere(A).turned(), Nowhere(A))

    def test_turned_is_kept_alike(self):
        chance = chances(8)
        for _ in range(100):
            world = World(some_rows(chance, "abc"))
            saying = Saying.read(some_saying_text(chance, world.lands))
            self.assertIs(saying.turned().is_kept(world), saying.is_kept(world))


class Equality(Case):
    """Sayings of one class with equal attributes are equal."""

    def test_equal(self):
        texts = ["a deep b", "a deep|rim b", "b holdsdeep a", "a deep c", "c deep b", "! a", "! b", "a deep + b b",
                 "! * a b"]
        for one in texts:
            for other in texts:
                self.assertEqual(Saying.read(one) == Saying.read(other), one == other)
                self.assertEqual(Saying.read(one) != Saying.read(other), one != other)
        self.assertEqual(Says(A, ["rim", "deep"], B), Says(A, ("deep", "rim"), B))
        for saying in (Says(A, ["deep"], B), Nowhere(A)):
            for value in (str(saying), None, A, 0):
                self.assertFalse(saying == value)


class Texts(Case):
    """Texts of sayings."""

    def test_there_and_back(self):
        chance = chances(9)
        for _ in range(200):
            self.read_only(Saying.read, some_saying_text(chance, ("a", "b1", "abcdefghijkl")))
        self.read_only(Saying.read, "a " + "|".join(EIGHT[:7]) + " b")
        self.assertIs(type(Saying.read("! a")), Nowhere)
        self.assertIs(type(Saying.read("a same a")), Says)

    def test_no_string(self):
        for value in (None, 1, True, b"! a", ["! a"], Nowhere(A), 1.5):
            self.refused(BadText(0, 0), Saying.read, value)

    def test_what_cannot_stand(self):
        every = "|".join(EIGHT)
        wrong = [("", 0), ("a", 1), ("a deep", 2), ("a b", 1), ("a deep b c", 3), ("a deep b ", 3), (" a deep b", 0),
                 ("a  deep b", 1), ("a deep  b", 2), ("a rim|deep b", 1), ("a deep|deep b", 1), ("a deep| b", 1),
                 ("a |deep b", 1), ("a Deep b", 1), ("a deep|nowhere b", 1), ("a " + every + " b", 1), ("! ", 1),
                 ("!", 1), ("! a b", 2), ("! + a", 3), ("! + - * a b c d", 3), ("!a", 0), ("! ! a", 1), ("deep a b", 1),
                 ("+ a deep b", 3), ("+ a b deep - c", 6), ("+ - * a b c d deep e", 2), ("a deep + + + b", 4),
                 ("a deep !", 2), ("a deep|rim", 2), ("a / b", 1), ("a deep b / c rim d", 3), ("a deep\n b", 1)]
        for text, item in wrong:
            self.refused(BadText(0, item), Saying.read, text)

    def test_changed_texts(self):
        for told in ("a deep|rim + a b", "! - a b", "+ a * a b same b"):
            for text in items_changed(told, ("a", "+", "deep", "rim|deep", "!", "/", "A")):
                item = item_by_trying(Saying.read, text, ("a", "deep"), 5)
                if item is None:
                    self.read_only(Saying.read, text)
                else:
                    self.refused(BadText(0, item), Saying.read, text)
