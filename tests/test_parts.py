"""Ways, and the parts of cells that hang together."""

import itertools

from borderwords.books import Book
from borderwords.check_rows import shows_way
from borderwords.errors import BadBook, BadNumber, BadWorld, NoLand
from borderwords.papers import Denial, Paper
from borderwords.parts import Shut, Way, part_needs, part_number, parts, way
from borderwords.worlds import World
from tests.support import (
    Case, as_lists, below, bent, book_read, cell_order, cells_over, chances, names_of, needs_by_definition, odd_values,
    some_plain_text, some_saying_text)
from tests.test_traces import NO_SINGLE, let_of

NO_CELLS = ["a", ["b", "a"], ["a", "a"], ["A"], [["a"]], {"a": 1}, [None], ("a", 1)]
SPLIT = ["+ + a b + c d deep e", "a apart - e a", "b apart - e b", "c apart - e c", "d apart - e d"]
ELEVEN = ("abcde", SPLIT + ["! * a b", "! * * a c d"])
TEN = ("abcde", ELEVEN[1] + ["! * * b c d"])
TWO = ("abc", ["a deep c", "b deep c", "+ a b same c", "a apart b"])


def neighbours(lands, texts):
    """For each let cell the set of the cells with which it has a let border, itself among them."""
    let = let_of(lands, texts)
    return {cell: {p if q == cell else q for p, q in let if cell in (p, q)} for cell, its in let if cell == its}


def parts_by_definition(lands, texts):
    """The parts of a book of one word, lists of cells in order."""
    near = neighbours(lands, texts)
    found = []
    for cell in sorted(near, key=cell_order):
        if not any(cell in part for part in found):
            part = {cell}
            while True:
                more = {its for one in part for its in near[one]}
                if more <= part:
                    break
                part |= more
            found.append(sorted(part, key=cell_order))
    return found


def part_needs_by_definition(lands, texts, part):
    """The needs that a part has, in order."""
    let = [(p, q) for p, q in let_of(lands, texts) if p in part and q in part]
    return tuple(need for need, has in needs_by_definition(lands, texts) if any(has(p, q) for p, q in let))


def steps_between(near, start, end):
    """How many cells the shortest way has, None if there is none."""
    seen, many = {start}, 1
    while end not in seen:
        more = {its for one in seen for its in near[one]}
        if more <= seen:
            return None
        seen, many = seen | more, many + 1
    return many


def is_cell_of(near, cell):
    """Whether a value is a tuple of names of a let cell."""
    return isinstance(cell, tuple) and all(type(name) is str for name in cell) and cell in [names_of(one) for one in near]


def is_right(near, start, end, value):
    """Whether a value is a right Way or Shut, by the definitions."""
    if type(value) not in (Way, Shut) or not isinstance(value.cells, tuple):
        return False
    if not all(is_cell_of(near, cell) for cell in value.cells):
        return False
    cells = [frozenset(cell) for cell in value.cells]
    if type(value) is Way:
        return (bool(cells) and cells[0] == start and cells[-1] == end
                and all(its in near[cell] for cell, its in zip(cells, cells[1:])))
    if len(set(cells)) != len(cells) or start not in cells or end in cells:
        return False
    return all(near[cell] <= set(cells) for cell in cells)


class PartsOfBooks(Case):
    """parts, part_number, part_needs."""

    def right(self, lands, texts):
        book, wanted = book_read(lands, texts), parts_by_definition(lands, texts)
        told = parts(book)
        self.assertEqual(told, tuple(tuple(names_of(cell) for cell in part) for part in wanted), texts)
        for cell in cells_over(sorted(lands)):
            numbers = [number for number, part in enumerate(wanted) if cell in part] + [None]
            self.assertEqual(part_number(book, list(names_of(cell))), numbers[0])
        for number, part in enumerate(wanted):
            self.assertEqual(part_needs(book, number), part_needs_by_definition(lands, texts, part), (texts, number))
        self.assertEqual(told[0][0], ())
        return len(told)

    def test_by_definition(self):
        chance = chances(331)
        met = []
        for lands in ("a", "ab", "abc", "abcd"):
            for _ in range(25):
                met.append(self.right(lands, [some_saying_text(chance, lands, 2, 1) for _ in range(chance.randint(0, 3))]))
        for _ in range(40):
            regions = [chance.choice(["a", "b", "c", "+ a b", "- c a", "- c b", "+ b c"]) for _ in range(6)]
            words = [chance.choice(["deep", "apart", "same"]) for _ in range(3)]
            met.append(self.right("abc", [" ".join(row) for row in zip(regions[:3], words, regions[3:])]))
        self.assertLessEqual({1, 2, 3}, set(met))

    def test_possible_plain_books_have_one_part(self):
        chance = chances(332)
        for _ in range(40):
            texts = [some_plain_text(chance, "abc") for _ in range(2)]
            if all(any(has(p, q) for p, q in let_of("abc", texts)) for need, has in needs_by_definition("abc", texts)):
                self.assertEqual(self.right("abc", texts), 1)

    def test_edges(self):
        self.assertEqual(self.right("a", []), 1)
        self.assertEqual(self.right("a", ["! a"]), 1)
        self.assertEqual(parts(Book.read("a : ! a")), (((),),))
        self.assertEqual(self.right(*TWO), 3)
        self.assertEqual(parts(book=Book.read("a b : a deep b / b deep a")), (((),), (("a", "b"),)))
        self.assertEqual(self.right("abcde", SPLIT), 16)
        self.assertEqual(self.right(*ELEVEN), 11)
        self.assertEqual(self.right(*TEN), 10)

    def test_refused(self):
        book = book_read(*TWO)
        for value in odd_values() + NO_SINGLE:
            self.refused(BadBook("book"), parts, value)
            self.refused(BadBook("book"), part_number, value, value)
            self.refused(BadBook("book"), part_needs, value, value)
        for value in odd_values() + NO_CELLS:
            self.refused(BadWorld("cell"), part_number, book, value)
        self.refused(NoLand("d"), part_number, book, ["a", "d", "e"])
        for value in odd_values() + [-1, 3, 10 ** 30, "0", 0.0]:
            self.refused(BadNumber("number"), part_needs, book, value)
        self.assertEqual(part_number(cell=("b", "c"), book=book), 2)
        self.assertEqual(part_needs(number=0, book=book), ())


class Ways(Case):
    """way."""

    def right(self, lands, texts, start, end):
        near = neighbours(lands, texts)
        book, one, other = book_read(lands, texts), names_of(start), names_of(end)
        if start not in near or end not in near:
            self.refused(BadWorld("cell" if start not in near else "other"), way, book, one, other)
            self.refused(BadWorld("cell" if start not in near else "other"), shows_way, book, one, other, None)
            return None
        paper, many = way(book, one, other), steps_between(near, start, end)
        if many is None:
            part = [part for part in parts_by_definition(lands, texts) if start in part][0]
            self.assertIs(type(paper), Shut)
            self.assertEqual(paper.cells, tuple(names_of(cell) for cell in part))
        else:
            self.assertIs(type(paper), Way)
            self.assertEqual(len(paper.cells), many)
        self.assertTrue(is_right(near, start, end, paper))
        self.assertEqual(way(book_read(lands, texts), list(one), list(other)), paper)
        self.assertIs(shows_way(book, one, other, paper), True)
        return many

    def test_by_definition(self):
        chance = chances(333)
        met = []
        for lands in ("a", "ab", "abc"):
            for _ in range(20):
                texts = [some_saying_text(chance, lands, 2, 1) for _ in range(chance.randint(0, 3))]
                for _ in range(12):
                    met.append(self.right(lands, texts, *chance.choices(cells_over(lands), k=2)))
        self.assertLessEqual({None, 1, 2, 3}, set(met))

    def test_edges(self):
        plain = Book.read("a b c d : a deep b / b deep c / c deep d")
        self.assertEqual(way(plain, [], list("abcd")).cells, ((), ("d",), ("c", "d"), ("b", "c", "d"), tuple("abcd")))
        self.assertEqual(way(cell=(), other=(), book=plain), Way([()]))
        two = book_read(*TWO)
        self.assertEqual(way(two, ["a", "c"], []), Shut([("a", "c")]))
        self.assertEqual(way(two, [], ["a", "c"]), Shut([()]))

    def test_refused(self):
        book = book_read(*TWO)
        for value in odd_values() + NO_SINGLE:
            self.refused(BadBook("book"), way, value, value, value)
            self.refused(BadBook("book"), shows_way, value, value, value, None)
        for call in (way, lambda book, cell, other: shows_way(book, cell, other, None)):
            for value in odd_values() + NO_CELLS:
                self.refused(BadWorld("cell"), call, book, value, value)
                self.refused(BadWorld("other"), call, book, ["d"], value)
            self.refused(NoLand("d"), call, book, ["a", "d", "e"], ["f"])
            self.refused(NoLand("e"), call, book, ["a"], ["a", "e", "f"])
            self.refused(BadWorld("cell"), call, book, ["a"], ["b"])
            self.refused(BadWorld("cell"), call, book, ["c"], [])
            self.refused(BadWorld("other"), call, book, ["a", "c"], ["b"])

    def test_papers(self):
        for kind, base in ((Way, Paper), (Shut, Denial)):
            paper = kind([["a"], []])
            self.assertEqual((paper.word, paper.parts, paper.cells), (kind.__name__.lower(), ((("a",), ()),), (("a",), ())))
            self.assertEqual((kind(cells=(("a",), ())), kind.__bases__), (paper, (base,)))
        self.assertEqual(World.read("a").cells, (("a",),))


class ShowsWay(Case):
    """Which papers are right."""

    def agrees(self, lands, texts, start, end, value):
        wanted = is_right(neighbours(lands, texts), frozenset(start), frozenset(end), value)
        self.assertIs(shows_way(book_read(lands, texts), start, end, value), wanted, (texts, start, end, value))
        return wanted

    def test_bent(self):
        for lands, texts, start, end in (("ab", ["a deep b"], (), ("a", "b")), ("ab", ["a deep b"], ("b",), ("b",)),
                                         (*TWO, ("a", "c"), ("b", "c")), (*TWO, (), ("b", "c")), ("a", [], (), ("a",))):
            paper = way(book_read(lands, texts), start, end)
            self.assertTrue(self.agrees(lands, texts, start, end, paper))
            for value in bent(paper):
                self.agrees(lands, texts, start, end, value)
            self.assertTrue(self.agrees(lands, texts, start, end, type(paper)(as_lists(paper.cells))))
            self.assertFalse(self.agrees(lands, texts, start, end, below(paper)))
            self.assertFalse(self.agrees(lands, texts, start, end, Paper(paper.word, paper.cells)))

    def test_all_short_rows(self):
        cells = [(), ("a",), ("b",), ("a", "b"), ("b", "a"), ("c",)]
        met = []
        for texts in (["a deep b"], [], ["a deep b", "b deep a"], ["! * a b"]):
            for start, end in (((), ("a", "b")), (("b",), ()), ((), ())):
                let = neighbours("ab", texts)
                if frozenset(start) in let and frozenset(end) in let:
                    for many in range(4):
                        for row in itertools.product(cells, repeat=many):
                            met.append(self.agrees("ab", texts, start, end, Way(row)))
                            met.append(self.agrees("ab", texts, start, end, Shut(row)))
        self.assertGreater(met.count(True), 20)

    def test_shut_of_several_parts(self):
        for cells in itertools.permutations([("a", "c"), ("b", "c"), ()], 2):
            self.assertIs(self.agrees(*TWO, ("a", "c"), (), Shut(cells)), set(cells) == {("a", "c"), ("b", "c")})
        self.assertFalse(self.agrees("ab", ["a deep b"], (), ("a", "b"), Shut([()])))
        self.assertFalse(self.agrees("ab", ["a deep b"], (), (), Shut([()])))

    def test_other_values(self):
        book = book_read(*TWO)
        for value in odd_values() + [book, (("a", "c"),), World.read("a+c"), Way, "ac"]:
            self.assertIs(shows_way(book, ["a", "c"], [], value), False)
            self.agrees(*TWO, (), (), Way(value))
            self.assertIs(shows_way(book, [], [], Way([(), value])), False)
            self.assertIs(shows_way(book, ["a", "c"], [], Shut([("a", "c"), value])), False)
