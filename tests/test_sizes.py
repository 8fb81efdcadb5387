"""Sizes, size sayings, sized books."""

from borderwords.books import Book
from borderwords.checks import is_integer_text
from borderwords.errors import BadBook, BadRegion, BadSize, BadText, BadWorld, Misfit, NoLand, TooMany, Twice
from borderwords.regions import Common, Land, Region, Rest, Sum
from borderwords.sayings import Saying
from borderwords.sizes import Above, AtLeast, SizedBook, SizeSaying, size_of
from borderwords.worlds import World
from tests.support import (
    Case, cells_over, chances, item_by_trying, items_changed, names_of, odd_values, over, rows_of, some_plain_text,
    some_region_text, some_rows, world_keeps)
from tests.test_parts import NO_CELLS
from tests.test_traces import NO_SINGLE

A, B = Land("a"), Land("b")
NO_SIZES = ["atleast 1 a", ("a", 1), A, Saying.read("! a")]
NO_LENGTHS = [[], [1], [[1]], [[1, 2], [3]], [[1, 2, 3]], [[1, 2, 3], [4], [5]], [[1, 2, 3], []], [[1, 2, 0], [4]],
              [[1, 2, -1], [4]], [[1, 2, True], [4]], [[1, 2, 3.0], [4]], [[1, 2, "3"], [4]], [[1, 2, 3], 4], "abc",
              [[1, 2, 3, 4]], {0: [1, 2, 3], 1: [4]}, [[1, 2, 3], [4, 5]], [[1, 2, None], [4]], [4, [1, 2, 3]],
              [[1, 2, 3], {4: 4}], [(1, 2, [3]), (4,)]]


def some_counts(chance, lands, most=4):
    """Pairs of the text of a region and of a count, no two regions alike."""
    found = {}
    for _ in range(chance.randint(1, most)):
        found[some_region_text(chance, lands)] = chance.randint(-9, 9)
    return list(found.items())


def made(counts):
    """The counts as classes take them."""
    return [(Region.read(text), count) for text, count in counts]


def size_by_definition(world, lengths, text):
    """The size of a region told by its text."""
    told = [(cell, length) for row, its in zip(rows_of(world), lengths) for cell, length in zip(row, its)]
    return sum(length for cell, length in told if over(text, cell))


def some_lengths(chance, world):
    """Lengths of a world."""
    return [[chance.randint(1, 9) for _ in row] for row in world.rows]


class SizeSayings(Case):
    """AtLeast and Above."""

    def test_made(self):
        for kind in (AtLeast, Above):
            saying = kind([[A, 2], (Sum(A, B), -9)])
            self.assertEqual(saying.counts, ((A, 2), (Sum(A, B), -9)))
            self.assertEqual(kind(counts=((A, 2), (Sum(A, B), -9))), saying)
            self.assertTrue(issubclass(kind, SizeSaying) and kind is not SizeSaying)
            self.assertEqual(len(kind([(A, 0), (B, 0), (Sum(A, B), 9), (Sum(B, A), 9)]).counts), 4)
        self.assertFalse(issubclass(AtLeast, Above) or issubclass(Above, AtLeast))

    def test_what_is_passed_may_be_changed(self):
        counts = [[A, 2]]
        saying = AtLeast(counts)
        counts[0][1] = 3
        counts.append([B, 1])
        self.assertEqual(saying.counts, ((A, 2),))
        self.assertIs(type(saying.counts[0]), tuple)

    def test_equality(self):
        values = [AtLeast([(A, 1)]), Above([(A, 1)]), AtLeast([(A, -1)]), AtLeast([(B, 1)]), AtLeast([(A, 1), (B, 1)]),
                  AtLeast([(B, 1), (A, 1)]), AtLeast([(Sum(A, B), 1)]), AtLeast([(Common(A, B), 1)]), Above([(A, 2)])]
        for at, one in enumerate(values):
            for its, other in enumerate(values):
                self.assertEqual(one == other, at == its)
                self.assertEqual(one != other, at != its)
            for value in ("atleast 1 a", ((A, 1),), None, [(A, 1)], SizedBook(Book(["a"]))):
                self.assertFalse(one == value)

    def test_worth(self):
        chance = chances(361)
        for _ in range(60):
            counts = some_counts(chance, "abc")
            for kind in (AtLeast, Above):
                for cell in cells_over("abcd"):
                    wanted = sum(count for text, count in counts if over(text, cell))
                    self.assertEqual(kind(made(counts)).worth(names_of(cell)), wanted)
                    self.assertEqual(kind(made(counts)).worth(cell=list(names_of(cell))), wanted)
        for value in odd_values() + NO_CELLS:
            self.refused(BadWorld("cell"), AtLeast([(A, 1)]).worth, value)
            self.refused(BadWorld("cell"), Above([(A, 1)]).worth, value)

    def test_contrary(self):
        chance = chances(362)
        for _ in range(60):
            counts = some_counts(chance, "abc")
            turned = [(region, -count) for region, count in made(counts)]
            self.assertEqual(AtLeast(made(counts)).contrary(), Above(turned))
            self.assertEqual(Above(made(counts)).contrary(), AtLeast(turned))
            self.assertIs(type(AtLeast(made(counts)).contrary()), Above)
            world = World(some_rows(chance, "abc"))
            if len(world.lands) == 3:
                lengths, book = some_lengths(chance, world), Book(["a", "b", "c"])
                for saying in (AtLeast(made(counts)), Above(made(counts))):
                    kept = [SizedBook(book, [one]).keeps(world, lengths) for one in (saying, saying.contrary())]
                    self.assertEqual(sorted(kept), [False, True])

    def test_refused(self):
        wrong = [[], (), [(A, 1)] * 5, [(A, 1), (B, 1), (Sum(A, B), 1), (Sum(B, A), 1), (Rest(A, B), 1)], [A], [1],
                 [("a", 1)], [(A,)], [(A, 1, 2)], [(1, A)], [(A, 10)], [(A, -10)], [(A, True)], [(A, False)], [(A, 1.0)],
                 [(A, "1")], [(A, None)], {A.name: 1}, "a 1", (A, 1), [{A.name: 1, "b": 2}], [(A, 1), (B, 10 ** 30)],
                 [(A, 1), None], [(A, 1), (A, 10)], [([A], 1)], [(Saying.read("! a"), 1)], 3, {"a": 1}]
        for kind in (AtLeast, Above):
            for value in odd_values() + wrong:
                self.refused(BadSize("counts"), kind, value)
            for value in odd_values():
                self.refused(BadSize("counts"), kind, [(A, 1), value])
                self.refused(BadSize("counts"), kind, [(A, 1), (B, value)])
                self.refused(BadSize("counts"), kind, [(value, 1), (A, 1)])

    def test_twice(self):
        for kind in (AtLeast, Above):
            again = Land("a")
            for counts, region in (([(A, 1), (again, 1)], again), ([(A, 1), (B, 1), (Sum(A, B), 0), (Sum(A, B), 2)], Sum(A, B)),
                                   ([(B, 1), (A, 1), (again, 3), (B, 2)], again)):
                with self.assertRaises(Twice) as found:
                    kind(counts)
                self.assertEqual(found.exception.value, region)
            with self.assertRaises(Twice) as found:
                kind([(A, 1), (again, 1)])
            self.assertIs(found.exception.value, again)
            self.assertEqual(len(kind([(Sum(A, B), 1), (Sum(B, A), 1), (Rest(A, B), 1), (Common(A, B), 1)]).counts), 4)


class Texts(Case):
    """Texts of size sayings."""

    def test_there_and_back(self):
        chance = chances(363)
        for _ in range(200):
            counts = some_counts(chance, ("a", "b1", "abcdefghijkl"))
            for word, kind in (("atleast", AtLeast), ("above", Above)):
                text = " ".join([word] + [f"{count} {region}" for region, count in counts])
                self.assertEqual(str(kind(made(counts))), text)
                self.assertEqual(SizeSaying.read(text), kind(made(counts)))
                self.assertIs(type(SizeSaying.read(text)), kind)

    def test_no_string(self):
        for value in (None, 1, True, b"above 1 a", ["above 1 a"], Above([(A, 1)]), 1.5, object()):
            self.refused(BadText(0, 0), SizeSaying.read, value)

    def test_what_cannot_stand(self):
        wrong = [("", 0), ("above", 1), ("atleast", 1), ("Above 1 a", 0), ("above ", 1), ("above 1", 2), ("above a", 1),
                 ("above 1 a ", 3), (" above 1 a", 0), ("above  1 a", 1), ("above 1  a", 2), ("above 10 a", 1),
                 ("above -10 a", 1), ("above +1 a", 1), ("above 01 a", 1), ("above -0 a", 1), ("above - a", 1),
                 ("above 1 a 1 a", 4), ("above 1 a 2 b 3 a", 6), ("above 1 + a b 2 + a b", 8), ("above 1 a 1", 4),
                 ("above 1 a b", 3), ("above 1 a 2 b 3 c 4 d 5 e", 9), ("above 1 a 2 b 3 c 4 d /", 9), ("above 1 1", 2),
                 ("above 1 + a", 4), ("above 1 + - * a b c d", 4), ("atleast 1 a 9 A", 4), ("above 1.0 a", 1),
                 ("atleast " + "1" * 61 + " a", 1), ("above 1 + a b 10 a", 5), ("above 1 a\n", 2), ("above --1 a", 1),
                 ("above 1 a above 1 b", 3), ("atleast 1 a 2 a 3 a 4 a 5 a", 4), ("above\u0661 a", 0), ("above \u0661 a", 1)]
        for text, item in wrong:
            self.refused(BadText(0, item), SizeSaying.read, text)
        for text in ("above 0 a", "atleast -9 a 9 b", "above 1 + a b 1 + b a 1 * a b 1 - a b", "above 1 + * a b - a b"):
            self.read_only(SizeSaying.read, text)

    def test_changed_texts(self):
        for told in ("above 2 a -1 b", "atleast 1 + a b -9 * a b", "above 0 a 1 b 2 c 3 d"):
            for text in items_changed(told, ("a", "+", "1", "-9", "10", "above", "A", "-0")):
                item = item_by_trying(SizeSaying.read, text, ("1", "a", "z"), 4)
                if item is None:
                    self.read_only(SizeSaying.read, text)
                else:
                    self.refused(BadText(0, item), SizeSaying.read, text)

    def test_integers(self):
        for item in ("0", "7", "-7", "10", "9" * 60, "-" + "9" * 60):
            self.assertTrue(is_integer_text(item), item)
        for item in ("", "-", "-0", "00", "01", "-01", "+1", "1.0", "a", "1a", "--1", "1-", " 1", "9" * 61, "-" + "9" * 61):
            self.assertFalse(is_integer_text(item), item)


class SizedBooks(Case):
    """SizedBook."""

    def test_made(self):
        book, sizes = Book.read("a b : a deep b"), [AtLeast([(A, 1)]), Above([(B, 1)])]
        sized = SizedBook(book, sizes)
        sizes.append(Above([(A, 1)]))
        self.assertEqual((sized.book, sized.sizes), (book, (AtLeast([(A, 1)]), Above([(B, 1)]))))
        self.assertEqual(SizedBook(sizes=sized.sizes, book=book), sized)
        self.assertEqual((SizedBook(book).sizes, SizedBook(book, ())), ((), SizedBook(book, [])))
        self.assertEqual(len(SizedBook(book, [AtLeast([(A, 1)])] * 4).sizes), 4)

    def test_equality(self):
        book, one, other = Book.read("a b : a deep b"), AtLeast([(A, 1)]), Above([(A, 1)])
        values = [SizedBook(book), SizedBook(book, [one]), SizedBook(book, [other]), SizedBook(book, [one, other]),
                  SizedBook(book, [other, one]), SizedBook(Book(["a", "b"]), [one]), SizedBook(Book(["a"]))]
        for at, value in enumerate(values):
            for its, another in enumerate(values):
                self.assertEqual(value == another, at == its)
            self.assertFalse(value == book or value == (book, ()) or value == str(value))

    def test_refused(self):
        book = Book.read("a b : a deep b")
        five, c = Book(list("abcde")), Above([(Region.read("+ c d"), 1)])
        for value in odd_values() + NO_SINGLE:
            self.refused(BadBook("book"), SizedBook, value)
            self.refused(BadBook("book"), SizedBook, value, value)
        for value in odd_values() + NO_SIZES + [book, SizeSaying()]:
            self.refused(BadSize("sizes"), SizedBook, book, value)
            self.refused(BadSize("sizes"), SizedBook, five, [c, value])
        self.refused(BadSize("sizes"), SizedBook, book, c)
        self.refused(NoLand("c"), SizedBook, book, [Above([(A, 1), (Region.read("* d c"), 1)])])
        self.refused(NoLand("d"), SizedBook, book, [Above([(A, 1)]), Above([(B, 1), (Land("d"), 1), (Land("c"), 1)])])
        self.refused(NoLand("c"), SizedBook, book, [Above([(A, 1)])] * 4 + [c])
        self.refused(NoLand("z"), SizedBook, five, [Above([(Land("z"), 1)])])
        self.refused(TooMany("lands", 4), SizedBook, five)
        self.refused(TooMany("lands", 4), SizedBook, five, [c] * 5)
        self.refused(TooMany("sizes", 4), SizedBook, book, [Above([(A, 1)])] * 5)
        self.assertEqual(SizedBook(Book(list("abcd")), [c] * 4).book.lands, ("a", "b", "c", "d"))

    def test_keeps(self):
        chance = chances(364)
        met = []
        for _ in range(300):
            world = World(some_rows(chance, "ab", 2, 3))
            if len(world.lands) == 2:
                texts = [some_plain_text(chance, "ab") for _ in range(chance.randint(0, 1))]
                rows = [(chance.choice([AtLeast, Above]), some_counts(chance, "ab", 2)) for _ in range(chance.randint(0, 2))]
                sized = SizedBook(Book(["a", "b"], [Saying.read(text) for text in texts]),
                                  [kind(made(counts)) for kind, counts in rows])
                lengths = some_lengths(chance, world)
                sums = [(kind, sum(count * size_by_definition(world, lengths, text) for text, count in counts))
                        for kind, counts in rows]
                wanted = world_keeps(world, "ab", texts) and all(
                    total >= 0 if kind is AtLeast else total > 0 for kind, total in sums)
                self.assertIs(sized.keeps(world, lengths), wanted)
                self.assertIs(sized.keeps(lengths=tuple(tuple(row) for row in lengths), world=world), wanted)
                met.append(wanted)
        self.assertGreater(min(met.count(True), met.count(False)), 30)

    def test_keeps_at_zero(self):
        world, book = World.read("a b"), Book(["a", "b"])
        for kind, kept in ((AtLeast, True), (Above, False)):
            self.assertIs(SizedBook(book, [kind([(A, 2), (B, -1)])]).keeps(world, [[1, 2]]), kept)
            self.assertIs(SizedBook(book, [kind([(A, 2), (B, -1)])]).keeps(world, [[1, 1]]), True)
            self.assertIs(SizedBook(book, [kind([(A, 2), (B, -1)])]).keeps(world, [[1, 3]]), False)
            self.assertIs(SizedBook(book, [kind([(Common(A, B), 3)])]).keeps(world, [[1, 2]]), kept)
        self.assertIs(SizedBook(book).keeps(world, [[10 ** 50, 1]]), True)

    def test_keeps_refused(self):
        sized, world = SizedBook(Book(["a", "b"])), World.read("a b - / a")
        for value in odd_values() + ["a b", world.rows]:
            self.refused(BadWorld("world"), sized.keeps, value, value)
        for value in odd_values() + NO_LENGTHS:
            self.refused(BadSize("lengths"), sized.keeps, world, value)
            self.refused(BadSize("lengths"), sized.keeps, World.read("a c - / a"), value)
        self.refused(Misfit("lands"), sized.keeps, World.read("a c - / a"), [[1, 2, 3], [4]])
        self.refused(Misfit("lands"), sized.keeps, World.read("a"), [[1]])
        self.refused(Misfit("lands"), sized.keeps, World.read("a b c"), [[1, 1, 1]])


class Sizes(Case):
    """size_of."""

    def test_by_definition(self):
        chance = chances(365)
        for _ in range(100):
            world = World(some_rows(chance, "abc"))
            lengths, text = some_lengths(chance, world), some_region_text(chance, world.lands)
            wanted = size_by_definition(world, lengths, text)
            self.assertEqual(size_of(world, lengths, Region.read(text)), wanted)
            self.assertEqual(size_of(region=Region.read(text), lengths=tuple(lengths), world=world), wanted)

    def test_edges(self):
        world = World.read("a b - / a")
        self.assertEqual(size_of(world, [[1, 2, 3], [4]], A), 5)
        self.assertEqual(size_of(world, [[1, 2, 3], [4]], Common(A, B)), 0)
        self.assertEqual(size_of(world, ((10 ** 60, 2, 3), (4,)), Sum(A, B)), 10 ** 60 + 6)

    def test_refused(self):
        world = World.read("a b - / a")
        for value in odd_values() + ["a b", world.rows]:
            self.refused(BadWorld("world"), size_of, value, value, value)
        for value in odd_values() + NO_LENGTHS:
            self.refused(BadSize("lengths"), size_of, world, value, value)
            self.refused(BadSize("lengths"), size_of, world, value, Land("c"))
        for value in odd_values() + ["a", world]:
            self.refused(BadRegion("region"), size_of, world, [[1, 2, 3], [4]], value)
        self.refused(NoLand("c"), size_of, world, [[1, 2, 3], [4]], Region.read("- d c"))
