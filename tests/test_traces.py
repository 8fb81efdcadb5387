"""Parts of borders, traces, borders that fit."""

import itertools

from borderwords.books import Book
from borderwords.borders import let_borders
from borderwords.errors import BadBook, BadWorld, NoLand, Twice
from borderwords.regions import Land
from borderwords.traces import fitting, part_of, trace
from tests.support import (
    Case, all_borders, book_read, borders_in_order, cell_order, chances, names_of, odd_values, some_plain_text,
    some_saying_text, told_by_definition)
from tests.test_sure import NO_BOOKS

NO_SINGLE = NO_BOOKS + [Book.read("a b : a deep|rim b")]
NO_BORDERS = ["a", [], [["a"]], [["a"], ["b"], []], [["b", "a"], []], [["a", "a"], []], [["A"], []], ["a", "b"],
              [["a"], None], {0: [], 1: []}, [[], [], []], [["a"], "b"]]


def let_of(lands, texts):
    """The borders that a book of one word lets, as pairs of frozensets, in order."""
    lands = tuple(sorted(lands))
    order = borders_in_order(lands)
    return [order[place] for place in sorted(told_by_definition(lands, texts)[0])]


def part(border, lands):
    """The part of a border for some lands, as a pair of frozensets in order."""
    return tuple(sorted([cell & frozenset(lands) for cell in border], key=cell_order))


def in_order(borders):
    """Borders as tuples of names, each once, in order."""
    unlike = {border for border in borders}
    return tuple(tuple(names_of(cell) for cell in border)
                 for border in sorted(unlike, key=lambda border: [cell_order(cell) for cell in border]))


def fitting_by_definition(one, other):
    """The let borders of the one of two pairs (lands, texts) that fit the other one."""
    common = set(one[0]) & set(other[0])
    parts = {part(border, common) for border in let_of(*other)}
    return [border for border in let_of(*one) if part(border, common) in parts]


class Parts(Case):
    """part_of."""

    def test_by_definition(self):
        for p, q in all_borders("abc"):
            for many in range(4):
                for lands in itertools.permutations("abd", min(many, 3)):
                    told = [list(names_of(q)), names_of(p)]
                    self.assertEqual(part_of(told, list(lands)), in_order([part((p, q), lands)])[0])
                    self.assertEqual(part_of(tuple(told[::-1]), lands), part_of(told, lands))

    def test_edges(self):
        self.assertEqual(part_of([["a", "b"], ["c"]], []), ((), ()))
        self.assertEqual(part_of([["a", "b"], ["c"]], ["c", "b"]), (("b",), ("c",)))
        self.assertEqual(part_of(lands=["c"], border=[["c"], ["a", "b"]]), ((), ("c",)))

    def test_refused(self):
        for value in odd_values() + NO_BORDERS:
            self.refused(BadWorld("border"), part_of, value, ["a"])


class Traces(Case):
    """trace."""

    def right(self, lands, texts, some):
        wanted = in_order([part(border, some) for border in let_of(lands, texts)])
        self.assertEqual(trace(book_read(lands, texts), list(some)), wanted, (texts, some))
        self.assertEqual(trace(book_read(lands, texts), tuple(reversed(some))), wanted)

    def test_by_definition(self):
        chance = chances(301)
        for lands in ("a", "ab", "abc", "abcd"):
            for _ in range(12):
                texts = [some_saying_text(chance, lands, 2, 1) for _ in range(chance.randint(0, 3))]
                for many in range(len(lands) + 1):
                    self.right(lands, texts, chance.sample(lands, many))

    def test_edges(self):
        self.assertEqual(trace(Book(["a"]), []), (((), ()),))
        self.assertEqual(trace(Book.read("a : ! a"), ["a"]), (((), ()),))
        self.assertEqual(trace(lands=("a",), book=Book(["b", "a"])), (((), ()), ((), ("a",)), (("a",), ("a",))))
        deep = Book.read("a b : a deep b")
        self.assertEqual(trace(deep, ["b", "a"]), let_borders(deep))
        for text in ("a b : a deep b / b deep a", "a b c : a meets b / b rim c"):
            self.assertEqual(trace(Book.read(text), [])[0], ((), ()))

    def test_a_possible_plain_book_has_all_borders_on_one_land(self):
        chance = chances(302)
        for _ in range(40):
            texts = [some_plain_text(chance, "abc") for _ in range(2)]
            let, needs = told_by_definition("abc", texts)
            if all(let & places for need, places in needs):
                for land in "abc":
                    self.assertEqual(trace(book_read("abc", texts), [land]),
                                     (((), ()), ((), (land,)), ((land,), (land,))))

    def test_refused(self):
        book = Book.read("a b c : a deep b")
        for value in odd_values() + NO_SINGLE:
            self.refused(BadBook("book"), trace, value, ["a"])
            self.refused(BadBook("book"), trace, value, value)
        for value in odd_values() + ["a", {"a": 1}, Land("a"), book]:
            if not isinstance(value, (list, tuple)):
                self.refused(BadBook("lands"), trace, book, value)
        for value in odd_values() + ["d", Land("a")]:
            self.refused(NoLand(value), trace, book, ["a", value, "e"])
        self.refused(NoLand("d"), trace, book, ["a", "a", "d"])
        self.refused(Twice("a"), trace, book, ["b", "a", "c", "a", "b"])


class Fitting(Case):
    """fitting."""

    def right(self, one, other):
        told = fitting(book_read(*one), book_read(*other))
        self.assertEqual(told, in_order(fitting_by_definition(one, other)), (one, other))

    def test_by_definition(self):
        chance = chances(303)
        for lands, its in (("a", "a"), ("ab", "ab"), ("ab", "bc"), ("ab", "cd"), ("abc", "bcd"), ("abcd", "bcd")):
            for _ in range(10):
                one = (lands, [some_saying_text(chance, lands, 2, 1) for _ in range(chance.randint(0, 2))])
                other = (its, [some_saying_text(chance, its, 2, 1) for _ in range(chance.randint(0, 2))])
                self.right(one, other)
                self.right(other, one)

    def test_edges(self):
        deep, there = Book.read("a b : a deep b"), Book.read("c d : c deep d / d deep c")
        self.assertEqual(fitting(deep, there), let_borders(deep))
        self.assertEqual(fitting(other=deep, one=deep), let_borders(deep))
        self.assertEqual(fitting(deep, Book.read("b : ! b")), (((), ()),))

    def test_refused(self):
        book = Book.read("a b : a deep b")
        for value in odd_values() + NO_SINGLE:
            self.refused(BadBook("one"), fitting, value, book)
            self.refused(BadBook("one"), fitting, value, value)
            self.refused(BadBook("other"), fitting, book, value)
