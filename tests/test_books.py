"""Books."""

import itertools

from borderwords.books import Book, require_plain_single, require_single
from borderwords.errors import (
    BadBook, BadNumber, BadSaying, BadText, BadWorld, Misfit, NoLand, NoSaying, TooMany, Twice)
from borderwords.regions import Land
from borderwords.sayings import Nowhere, Says, Saying
from borderwords.worlds import World
from tests.support import (
    EIGHT, LANDS, Case, book_text, chances, item_by_trying, items_changed, keeps_by_definition, odd_values, rows_of,
    single_texts, some_plain_text, some_rows, some_saying_text)

A, B = Land("a"), Land("b")
SEVEN = "|".join(EIGHT[:7])


def says(text):
    return Saying.read(text)


class Making(Case):
    """What a book keeps, and what is refused."""

    def test_attributes(self):
        told = [says("b deep|rim a"), says("! c"), says("a meets c")]
        book = Book(["c", "a", "b"], told)
        self.assertEqual((book.lands, book.sayings, len(book)), (("a", "b", "c"), tuple(told), 3))
        self.assertEqual((book.choices, book.is_plain, book.is_single), (2, False, False))
        empty = Book(lands=("b",))
        self.assertEqual((empty.lands, empty.sayings, len(empty), empty.choices), (("b",), (), 0, 1))
        self.assertEqual((empty.is_plain, empty.is_single), (True, True))
        self.assertEqual(Book(["a"], sayings=tuple(told[1:1])), Book(["a"]))

    def test_kinds(self):
        kinds = {"a b :": (True, True), "a b : a deep b": (True, True), "a b : a deep|rim b": (True, False),
                 "a b : a deep a / b same a": (True, True), "a b : a deep + b b": (False, True),
                 "a b : ! a": (False, True), "a b : * a b deep b": (False, True),
                 "a b : ! a / a deep|rim b": (False, False)}
        for text, (is_plain, is_single) in kinds.items():
            book = Book.read(text)
            self.assertEqual((book.is_plain, book.is_single), (is_plain, is_single), text)
            if is_single:
                require_single(book, "book")
            else:
                self.refused(BadBook("book"), require_single, book, "book")
            if is_plain and is_single:
                require_plain_single(book, "book")
            else:
                self.refused(BadBook("told"), require_plain_single, book, "told")

    def test_equal_sayings_and_a_land_with_itself(self):
        book = Book(["a", "b"], [says("a deep b")] * 10)
        self.assertEqual((len(book), book.sayings[9]), (10, says("a deep b")))
        self.assertEqual(str(Book(["a"], [says("a same|deep a")])), "a : a same|deep a")

    def test_bounds(self):
        self.assertEqual(len(Book(list(LANDS)).lands), 5)
        self.refused(TooMany("lands", 5), Book, list("fedcba"))
        self.assertEqual(len(Book(["a"], [says("! a")] * 10)), 10)
        self.refused(TooMany("sayings", 10), Book, ["a"], [says("! a")] * 11)
        two, three, seven = says("a deep|rim b"), says("a same|deep|rim b"), says(f"a {SEVEN} b")
        self.assertEqual(Book(["a", "b"], [two] * 6).choices, 64)
        self.assertEqual(Book(["a", "b"], [seven, seven]).choices, 49)
        self.assertEqual(Book(["a", "b"], [three, three, seven]).choices, 63)
        for told in ([two] * 7, [seven, seven, two], [says("a apart|meets|overlaps|same|deep b"),
                                                      says("a apart|meets|overlaps|same|deep b"), three]):
            self.refused(TooMany("choices", 64), Book, ["a", "b"], told)

    def test_errors_in_order(self):
        for value in odd_values() + [[], (), "a", ["A"], ["a", 1], [["a"]], {"a": 1}, {"a"}, A, [A]]:
            self.refused(BadBook("lands"), Book, value, [])
            self.refused(BadBook("lands"), Book, value, value)
        nowhere = says("! a")
        for value in odd_values() + ["a deep b", nowhere, ["a deep b"], [nowhere, A], {"a": 1}, [[nowhere]]]:
            if value not in ([], ()):
                self.refused(BadSaying("sayings"), Book, ["a", "a"], value)
        several = [says("! b"), says("! + e c")]
        self.refused(Twice("b"), Book, ["a", "b", "c", "b", "a"], several)
        self.refused(NoLand("c"), Book, ["a", "b"], several)
        self.refused(NoLand("d"), Book, list("abcefg"), [says("e deep d")] * 11)
        self.refused(NoLand("f"), Book, list(LANDS), [says("! a"), says("g deep f"), says("! f")])
        self.refused(TooMany("lands", 5), Book, list("abcdef"), [says("! a")] * 11)
        self.refused(TooMany("sayings", 10), Book, ["a", "b"], [says("a deep|rim b")] * 11)

    def test_what_is_passed_may_be_changed(self):
        lands, told = ["a", "b"], [says("a deep b")]
        book = Book(lands, told)
        lands.append("c")
        told.append(says("! a"))
        self.assertEqual(str(book), "a b : a deep b")

    def test_no_books(self):
        for value in odd_values() + ["a :", ["a"], says("! a")]:
            self.refused(BadBook("told"), require_single, value, "told")
            self.refused(BadBook("told"), require_plain_single, value, "told")


class Choices(Case):
    """The books of the choices."""

    def test_order(self):
        book = Book.read("a b : a apart|rim b / ! - a b / b meets|same|deep b")
        words = [tuple(saying.words for saying in book.choice(number).sayings if isinstance(saying, Says))
                 for number in range(book.choices)]
        self.assertEqual(words, [((one,), (its,)) for one in ("apart", "rim") for its in ("meets", "same", "deep")])

    def test_by_definition(self):
        chance = chances(11)
        for _ in range(60):
            texts = [some_saying_text(chance, "ab", 2, 3) for _ in range(chance.randint(0, 3))]
            book = Book.read(book_text("ab", texts))
            found = [str(book.choice(number=number)) for number in range(book.choices)]
            self.assertEqual(found, [book_text("ab", row) for row in single_texts(texts)])
            world = World(some_rows(chance, "ab"))
            if world.lands == ("a", "b"):
                kept = [number for number in range(book.choices) if book.choice(number).first_broken(world) is None]
                self.assertEqual(len(kept), int(book.first_broken(world) is None))

    def test_refused(self):
        book = Book.read("a b : a deep|rim b")
        for value in odd_values() + [-1, 2, "0", [0]]:
            self.refused(BadNumber("number"), book.choice, value)
        self.refused(BadNumber("number"), Book(["a"]).choice, 1)
        self.assertEqual(Book(["a"]).choice(0), Book(["a"]))


class Changes(Case):
    """Books made of a book."""

    def test_with_saying(self):
        book = Book.read("a b : a deep|rim b")
        self.assertEqual(str(book.with_saying(says("! a"))), "a b : a deep|rim b / ! a")
        self.assertEqual(str(book), "a b : a deep|rim b")
        for value in odd_values() + ["! a", [says("! a")], A]:
            self.refused(BadSaying("saying"), book.with_saying, value)
        self.refused(NoLand("c"), book.with_saying, says("! + d c"))
        self.refused(TooMany("sayings", 10), Book(["a"], [says("! a")] * 10).with_saying, says("! a"))
        self.refused(NoLand("c"), Book(["a"], [says("! a")] * 10).with_saying, says("! c"))
        self.refused(TooMany("choices", 64), Book(["a", "b"], [book.sayings[0]] * 6).with_saying, book.sayings[0])

    def test_without(self):
        book = Book.read("a b : ! a / ! b / a deep b / a rim b")
        self.assertEqual(str(book.without([])), str(book))
        self.assertEqual(str(book.without((2, 0))), "a b : ! b / a rim b")
        self.assertEqual(str(book.without(numbers=[3, 2, 1, 0])), "a b :")
        self.assertEqual(book.without([1]).lands, ("a", "b"))

    def test_without_refused(self):
        book = Book.read("a b : ! a / ! b / a deep b")
        for value in odd_values() + [0, "0", [True], [0, False], [0, "1"], [0, 1.0], [None], {0: 1}, {0}, [[0]]]:
            if value not in ([], ()):
                self.refused(BadNumber("numbers"), book.without, value)
        self.refused(NoSaying(3), book.without, [0, 0, 3, -1])
        self.refused(NoSaying(-1), book.without, [-1])
        self.refused(Twice(1), book.without, [0, 2, 1, 1, 2, 0])
        self.refused(NoSaying(0), Book(["a"]).without, [0])

    def test_as_one(self):
        book = Book.read("a b c : a deep|rim - b c / ! * a + b c / b same c")
        self.assertEqual(str(book.as_one("a", "b")), "a c : a deep|rim - a c / ! * a + a c / a same c")
        self.assertEqual(str(book.as_one(one="c", other="a")), "b c : c deep|rim - b c / ! * c + b c / b same c")
        self.assertEqual(str(Book.read("a b : + a b same a").as_one("a", "b")), "a : + a a same a")

    def test_as_one_refused(self):
        book = Book.read("a b : a deep b")
        for value in odd_values() + ["c", ["a"], A]:
            self.refused(NoLand(value), book.as_one, value, "a")
            self.refused(NoLand(value), book.as_one, value, value)
            self.refused(NoLand(value), book.as_one, "a", value)
        self.refused(NoLand("c"), book.as_one, "c", "d")
        self.refused(Twice("b"), book.as_one, "b", "b")


def choices_few(texts):
    """Whether a book with these sayings has no more choices than it may have."""
    return len(single_texts(texts)) <= 64


class Keeping(Case):
    """The first saying that a world does not keep."""

    def test_by_definition(self):
        chance = chances(12)
        met = set()
        for _ in range(400):
            world = World(some_rows(chance, "abc"))
            texts = [some_saying_text(chance, world.lands, 1, 6) for _ in range(3)]
            texts = [text if choices_few(texts) else single_texts([text])[0][0] for text in texts]
            broken = [number for number, text in enumerate(texts) if not keeps_by_definition(rows_of(world), text)]
            wanted = broken[0] if broken else None
            met.add(wanted)
            self.assertEqual(Book.read(book_text(world.lands, texts)).first_broken(world), wanted)
        self.assertEqual(met, {None, 0, 1, 2})

    def test_refused(self):
        book = Book.read("a b : a deep b")
        for value in odd_values() + ["a b", [[["a"]]]]:
            self.refused(BadWorld("world"), book.first_broken, value)
        for text in ("a", "a+b+c b", "c"):
            self.refused(Misfit("lands"), book.first_broken, World.read(text))
        self.assertIsNone(book.first_broken(world=World.read("a+b b")))


class Equality(Case):
    """Books with the same lands and sayings are equal."""

    def test_equal(self):
        texts = ["a :", "b :", "a b :", "a b : ! a", "a b : ! b", "a b : ! a / ! b", "a b : ! b / ! a",
                 "a b : ! a / ! a", "a b : a deep b", "a b : b holdsdeep a"]
        for one, other in itertools.product(texts, texts):
            self.assertEqual(Book.read(one) == Book.read(other), one == other)
            self.assertEqual(Book.read(one) != Book.read(other), one != other)
        self.assertEqual(Book(["b", "a"], [Nowhere(A)]), Book(("a", "b"), (Nowhere(A),)))
        for value in ("a :", None, ("a",), 0, False):
            self.assertFalse(Book(["a"]) == value)


class Texts(Case):
    """Texts of books."""

    def test_there_and_back(self):
        chance = chances(13)
        for _ in range(80):
            lands = sorted(chance.sample(("a", "b1", "lake", "abcdefghijkl", "deep"), chance.randint(1, 5)))
            texts = [some_plain_text(chance, lands) for _ in range(chance.randint(0, 10))]
            texts = texts[:9] + [some_saying_text(chance, lands)]
            self.read_only(Book.read, book_text(lands, texts))
        self.assertEqual(Book.read("a b :"), Book(["a", "b"]))
        self.read_only(Book.read, "a b : " + " / ".join([f"a {SEVEN} b"] * 2))

    def test_no_string(self):
        for value in (None, 1, True, b"a :", ["a", ":"], Book(["a"]), 1.5):
            self.refused(BadText(0, 0), Book.read, value)

    def test_what_cannot_stand(self):
        wrong = [("", 0), (":", 0), ("a", 1), ("a b", 2), ("b a :", 1), ("a a :", 1), ("a : ", 2), ("a b c d e f :", 5),
                 ("a b c d e f", 5), ("a b c d e", 5), ("a : / ! a", 2), ("a : ! a /", 5), ("a : ! a / ", 5),
                 ("a : ! a ! a", 4), ("a : ! b", 3), ("a b : a deep b / a rim c", 9), ("a b : c deep b", 3),
                 ("a b : a deep + b c", 7), ("a b : a deep", 5), ("a b : a deep b a", 6), ("a  b :", 1), ("a : :", 2),
                 ("a b: a deep b", 1), ("A :", 0), ("a b :a deep b", 2), ("a b : ! - * + a b a", 6)]
        for text, item in wrong:
            self.refused(BadText(0, item), Book.read, text)

    def test_too_much(self):
        self.read_only(Book.read, "a : " + " / ".join(["! a"] * 10))
        self.refused(BadText(0, 31), Book.read, "a : " + " / ".join(["! a"] * 11))
        self.refused(BadText(0, 31), Book.read, "a : " + " / ".join(["! a"] * 10) + " /")
        two, seven = "a deep|rim b", f"a {SEVEN} b"
        self.refused(BadText(0, 28), Book.read, "a b : " + " / ".join([two] * 7))
        self.refused(BadText(0, 12), Book.read, "a b : " + " / ".join([seven, seven, two]))
        self.refused(BadText(0, 12), Book.read, "a b : " + " / ".join([seven, seven, "a deep|rim c"]))
        self.read_only(Book.read, "a b : " + " / ".join([seven, seven, "a rim b"]))
        self.read_only(Book.read, "a b : " + " / ".join([two] * 6))

    def test_changed_texts(self):
        for told in ("a b : a deep|rim b / ! a", "a c :", "b : b same b"):
            for text in items_changed(told, ("a", ":", "/", "deep", "!", "b", "+")):
                item = item_by_trying(Book.read, text, (":", "a", "b", "deep", "c"), 4)
                if item is None:
                    self.read_only(Book.read, text)
                else:
                    self.refused(BadText(0, item), Book.read, text)
