"""Quarrels, and what to take back."""

import itertools

from borderwords.books import Book
from borderwords.check_least import shows_struck
from borderwords.errors import BadBook, TooMany
from borderwords.papers import Paper
from borderwords.possible import possible
from borderwords.quarrels import Struck, quarrels, taken_back
from tests.support import (
    Case, book_read, chances, is_possible_by_definition, is_right_barred, odd_values, some_plain_text,
    some_saying_text, world_keeps)
from tests.test_least import lots, taken
from tests.test_sure import NO_BOOKS


def quarrels_by_definition(lands, texts):
    """The lots whose books are not possible, though the books of all lots with one number fewer are."""
    known = {lot: is_possible_by_definition(lands, taken(texts, lot)) for lot in lots(len(texts))}
    return tuple(lot for lot in known if not known[lot] and all(known[one] for one in itertools.combinations(
        lot, len(lot) - 1)))


def rest_of(texts, lot):
    """The texts that are not of the lot."""
    return [text for number, text in enumerate(texts) if number not in lot]


def is_shown(lands, texts, lot, pairs):
    """Whether pairs of lots and Barreds show that no lot with fewer numbers than this one does."""
    for pair in pairs:
        if not is_right_barred(lands, taken(texts, pair[0]), pair[1]):
            return False
    return not any(all(set(other) & set(one) for one, barred in pairs)
                   for other in lots(len(texts)) if len(other) < len(lot))


class Quarrels(Case):
    """quarrels and taken_back."""

    def right(self, lands, texts):
        book = book_read(lands, texts)
        told = quarrels(book)
        self.assertEqual(told, quarrels_by_definition(lands, texts), texts)
        paper = taken_back(book)
        first = [lot for lot in lots(len(texts)) if is_possible_by_definition(lands, rest_of(texts, lot))][0]
        self.assertIs(type(paper), Struck)
        self.assertEqual(paper.numbers, first)
        self.assertTrue(world_keeps(paper.world, lands, rest_of(texts, first)))
        self.assertTrue(is_shown(lands, texts, first, paper.pairs))
        self.assertEqual(bool(told), not possible(book))
        if not told:
            self.assertEqual((paper.numbers, paper.pairs), ((), ()))
        self.assertIs(shows_struck(book, paper), True)
        self.assertEqual(taken_back(book_read(lands, texts)), paper)
        return len(told)

    def test_by_definition(self):
        chance = chances(271)
        met = []
        for lands in ("a", "ab", "abc"):
            for _ in range(40):
                texts = [some_saying_text(chance, lands, 1, 2) for _ in range(chance.randint(0, 4))]
                met.append(self.right(lands, texts))
        self.assertLessEqual({0, 1, 2, 3}, set(met))

    def test_plain_books(self):
        chance = chances(272)
        met = [self.right("abcd", [some_plain_text(chance, "abcd", 2) for _ in range(6)]) for _ in range(12)]
        self.assertGreater(max(met), 3)

    def test_edges(self):
        self.assertEqual(self.right("a", []), 0)
        self.assertEqual(self.right("a", ["! a"]), 1)
        self.assertEqual(quarrels(Book.read("a : ! a / a same a / ! a")), ((0,), (2,)))
        self.assertEqual(taken_back(Book.read("a : ! a / a same a / ! a")).numbers, (0, 2))
        self.assertEqual(quarrels(Book.read("a b : a deep b / b deep a / a deep b")), ((0, 1), (1, 2)))
        self.assertEqual(taken_back(Book.read("a b : a deep b / b deep a / a deep b")).numbers, (1,))
        self.assertEqual(self.right("ab", ["a deep b", "b deep a"] * 3), 9)
        self.assertEqual(self.right("ab", ["a deep b"] * 6), 0)
        self.assertEqual(self.right("abc", ["! a", "! b", "! c", "! * a b"]), 3)
        self.assertEqual(taken_back(book=Book.read("a b : a apart|deep b / b deep a / a meets|rim b")).numbers, (0, 1))

    def test_refused(self):
        seven = Book.read("a b : " + " / ".join(["a deep b"] * 6 + ["b deep a"]))
        for call in (quarrels, taken_back, lambda book: shows_struck(book, None)):
            for value in odd_values() + NO_BOOKS:
                self.refused(BadBook("book"), call, value)
            self.refused(TooMany("sayings", 6), call, seven)
            self.refused(TooMany("sayings", 6), call, Book.read("a b : " + " / ".join(["a deep b"] * 10)))
        self.assertEqual(quarrels(book=seven.without([0])), ((0, 5), (1, 5), (2, 5), (3, 5), (4, 5)))

    def test_paper(self):
        paper = Struck([1], 2, [[3]])
        self.assertEqual((paper.word, paper.parts, bool(paper)), ("struck", ((1,), 2, ((3,),)), True))
        self.assertEqual((paper.numbers, paper.world, paper.pairs), paper.parts)
        self.assertEqual((Struck(pairs=((3,),), world=2, numbers=(1,)), Struck.__bases__), (paper, (Paper,)))
