"""Which papers of rows are right."""

import itertools

from borderwords.books import Book
from borderwords.check_rows import shows_fewest, shows_row
from borderwords.onerow import FewestRows, NoRow, OneRow, fewest_rows, on_one_row
from borderwords.papers import Denial, Paper
from borderwords.possible import possible
from borderwords.worlds import World
from tests.support import (
    Case, as_lists, below, bent, book_read, chances, is_one_of, needs_by_definition, odd_values, some_rows, world_keeps)
from tests.test_onerow import fewest_by_definition, lot_lacks, some_texts
from tests.test_parts import TEN, TWO


def are_lacking(value, rows):
    """Whether a value tells for each lot one of the needs that it lacks."""
    return isinstance(value, tuple) and len(value) == len(rows) and all(
        is_one_of(need, lacks) for need, lacks in zip(value, rows))


def is_right_row(lands, texts, value):
    """Whether a value is by the definitions a right OneRow or NoRow."""
    if type(value) is OneRow:
        return world_keeps(value.world, lands, texts) and len(value.world.rows) == 1
    return type(value) is NoRow and are_lacking(value.needs, lot_lacks(lands, texts, 1))


def is_right_fewest(lands, texts, value):
    """Whether a value is by the definitions a right FewestRows."""
    if type(value) is not FewestRows or not world_keeps(value.world, lands, texts):
        return False
    many = fewest_by_definition(lands, texts)
    return len(value.world.rows) == many and are_lacking(value.lacks, lot_lacks(lands, texts, many - 1))


BOOKS = [("a", []), ("a", ["! a"]), ("ab", ["a deep b"]), ("ab", ["a deep b", "b deep a"]), TWO, ("ab", ["a meets b"])]


class ShowsRow(Case):
    """OneRow and NoRow."""

    def agrees(self, lands, texts, value):
        wanted = is_right_row(lands, texts, value)
        self.assertIs(shows_row(book_read(lands, texts), value), wanted, (texts, getattr(value, "parts", value)))
        return wanted

    def test_bent(self):
        chance = chances(351)
        for lands, texts in BOOKS + [("abc", some_texts(chance, "abc", 3)) for _ in range(10)]:
            paper = on_one_row(book_read(lands, texts))
            self.assertTrue(self.agrees(lands, texts, paper))
            for value in bent(paper):
                self.agrees(lands, texts, value)
            self.assertTrue(self.agrees(lands, texts, type(paper)(*as_lists(paper.parts))))
            self.assertFalse(self.agrees(lands, texts, below(paper)))

    def test_worlds(self):
        chance = chances(352)
        worlds = [World(some_rows(chance, "ab", 2, 3)) for _ in range(60)] + [World.read("a b c"), World.read("a")]
        met = [self.agrees("ab", texts, OneRow(world)) for texts in ([], ["a deep b"], ["a apart b"], ["! * a b"])
               for world in worlds]
        self.assertGreater(min(met.count(True), met.count(False)), 10)
        self.assertTrue(self.agrees("ab", ["a deep b"], OneRow(World.read("a+b b b a+b"))))
        self.assertFalse(self.agrees("ab", ["a deep b"], OneRow(World.read("a+b b / b"))))

    def test_each_need_that_a_part_lacks(self):
        rows = lot_lacks(*TWO, 1)
        met = [self.agrees(*TWO, NoRow(row)) for row in itertools.islice(itertools.product(*rows), 0, None, 13)]
        self.assertEqual(set(met), {True})
        needs = [need for need, has in needs_by_definition(*TWO)]
        first = [row[0] for row in rows]
        for at in range(3):
            for need in needs + [("land", "d"), ("one", 4), ("one", True), ["one", 0]]:
                self.agrees(*TWO, NoRow(first[:at] + [need] + first[at + 1:]))

    def test_a_book_on_one_row_has_no_such_needs(self):
        self.assertFalse(self.agrees("ab", ["a deep b"], NoRow([("land", "a")])))
        self.assertFalse(self.agrees("ab", ["a deep b"], NoRow([])))

    def test_other_values(self):
        plain, two = Book.read("a b : a deep b"), book_read(*TWO)
        one, none = on_one_row(plain), on_one_row(two)
        for value in odd_values() + [plain, Paper("onerow", one.world), Denial("norow", none.needs), OneRow, none.needs,
                                     one.world, possible(plain), fewest_rows(plain)]:
            self.assertIs(shows_row(plain, value), False)
            self.assertIs(shows_row(two, value), False)
            if value is not one.world and value != one.world:
                self.assertIs(shows_row(plain, OneRow(value)), False)
            self.assertIs(shows_row(two, NoRow(none.needs[:2] + (value,))), False)
        for value in odd_values():
            self.assertIs(shows_row(two, NoRow(value)), False)
        self.assertIs(shows_row(value=none, book=two), True)


class ShowsFewest(Case):
    """FewestRows."""

    def agrees(self, lands, texts, value):
        wanted = is_right_fewest(lands, texts, value)
        self.assertIs(shows_fewest(book_read(lands, texts), value), wanted, (texts, getattr(value, "parts", value)))
        return wanted

    def test_bent(self):
        for lands, texts in BOOKS:
            if possible(book_read(lands, texts)):
                paper = fewest_rows(book_read(lands, texts))
                self.assertTrue(self.agrees(lands, texts, paper))
                for value in bent(paper):
                    self.agrees(lands, texts, value)
                self.assertTrue(self.agrees(lands, texts, FewestRows(*as_lists(paper.parts))))
                self.assertFalse(self.agrees(lands, texts, below(paper)))

    def test_worlds(self):
        chance = chances(353)
        worlds = [World(some_rows(chance, "ab", 3, 3)) for _ in range(60)] + [World.read("a b c"), World.read("a")]
        met = [self.agrees("ab", texts, FewestRows(world, lacks)) for texts in ([], ["a deep b"], ["a apart b"])
               for world in worlds for lacks in ([], [("land", "a")], [("land", "b")], [("one", 0)])]
        self.assertGreater(min(met.count(True), met.count(False)), 10)

    def test_more_rows_than_parts(self):
        lacks = [("land", "b"), ("other", 3), ("one", 3)]
        for text, right in (("a+c / b+c", True), ("b+c / a+c a+c", True), ("a+c / b+c / -", False), ("- / a+c / - / b+c", False),
                            ("- / a+c / - / b+c / -", False)):
            self.assertIs(self.agrees(*TWO, FewestRows(World.read(text), lacks)), right, text)
            self.assertFalse(self.agrees(*TWO, FewestRows(World.read(text), [])))
        for rows in range(2, 12):
            self.assertFalse(self.agrees("a", [], FewestRows(World.read(" / ".join(["a"] * rows)), [])))
            self.assertFalse(self.agrees("a", [], FewestRows(World.read(" / ".join(["a"] * rows)), [("land", "a")])))
        self.assertTrue(self.agrees("a", [], FewestRows(World.read("a a -"), [("land", "a")])))

    def test_each_need_that_a_lot_lacks(self):
        rows = lot_lacks(*TWO, 1)
        world = World.read("a+c / b+c")
        met = [self.agrees(*TWO, FewestRows(world, row)) for row in itertools.islice(itertools.product(*rows), 0, None, 17)]
        self.assertEqual(set(met), {True})
        first = [row[0] for row in rows]
        for at in range(3):
            for need in [need for need, has in needs_by_definition(*TWO)] + [("land", "d"), ("one", True)]:
                self.agrees(*TWO, FewestRows(world, first[:at] + [need] + first[at + 1:]))

    def test_ten_parts(self):
        paper = fewest_rows(book_read(*TEN))
        self.assertEqual((len(paper.world.rows), len(paper.lacks)), (3, 45))
        self.assertIs(shows_fewest(book_read(*TEN), paper), True)
        self.assertIs(shows_fewest(book_read(*TEN), FewestRows(paper.world, paper.lacks[:44])), False)

    def test_what_is_not_possible(self):
        self.assertIs(shows_fewest(Book.read("a : ! a"), FewestRows(World.read("a"), [("land", "a")])), False)
        self.assertIs(shows_fewest(Book.read("a b : a deep b / b deep a"), None), False)

    def test_other_values(self):
        two = book_read(*TWO)
        paper = fewest_rows(two)
        for value in odd_values() + [two, Paper("fewestrows", *paper.parts), FewestRows, paper.parts, paper.world]:
            self.assertIs(shows_fewest(two, value), False)
            self.assertIs(shows_fewest(two, FewestRows(paper.world, value)), False)
            self.assertIs(shows_fewest(two, FewestRows(paper.world, [value, *paper.lacks[1:]])), False)
        for value in odd_values() + [str(paper.world), [paper.world]]:
            self.assertIs(shows_fewest(two, FewestRows(value, paper.lacks)), False)
        self.assertIs(shows_fewest(value=paper, book=two), True)
