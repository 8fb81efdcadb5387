"""Which papers of idle sayings, of least lots, of what to take back are right."""

import itertools

from borderwords.books import Book
from borderwords.check_least import shows_idle, shows_least, shows_struck
from borderwords.idle import Idle, Needed, is_idle
from borderwords.least import LeastBook, least_book
from borderwords.papers import Denial, Paper
from borderwords.possible import Barred, possible
from borderwords.quarrels import Struck, taken_back
from borderwords.sayings import Saying
from borderwords.sure import asked
from borderwords.worlds import World
from tests.support import (
    Case, against_by_definition, as_lists, below, bent, book_read, chances, is_possible_by_definition,
    is_right_barred, keeps_by_definition, odd_values, rows_of, some_rows, some_saying_text, world_keeps)
from tests.test_idle import without
from tests.test_least import taken, told_once
from tests.test_quarrels import is_shown, rest_of


def is_right_idle(lands, texts, number, value):
    """Whether a value is by the definitions a right Idle or Needed."""
    rest, text = without(texts, number), texts[number]
    if type(value) is Needed:
        return world_keeps(value.world, lands, rest) and not keeps_by_definition(rows_of(value.world), text)
    against = against_by_definition(text)
    if type(value) is not Idle or not isinstance(value.papers, tuple) or len(value.papers) != len(against):
        return False
    return all(is_right_barred(lands, rest + [one], paper) for one, paper in zip(against, value.papers))


def is_ascending(value, many):
    """Whether a value is an ascending tuple of unlike numbers below this one."""
    return (isinstance(value, tuple) and all(type(number) is int and 0 <= number < many for number in value)
            and list(value) == sorted(set(value)))


def is_right_least(lands, texts, value):
    """Whether a value is by the definitions a right LeastBook."""
    if type(value) is not LeastBook or not is_ascending(value.numbers, len(texts)):
        return False
    if not isinstance(value.papers, tuple) or len(value.papers) != len(texts):
        return False
    lot = taken(texts, value.numbers)
    return all(type(paper) is Needed and is_right_idle(lands, texts, number, paper) if number in value.numbers else
               type(paper) is Idle and is_right_idle(lands, lot + [texts[number]], len(lot), paper)
               for number, paper in enumerate(value.papers))


def is_right_struck(lands, texts, value):
    """Whether a value is by the definitions a right Struck."""
    if type(value) is not Struck or not is_ascending(value.numbers, len(texts)) or not isinstance(value.pairs, tuple):
        return False
    if not all(isinstance(pair, tuple) and len(pair) == 2 and is_ascending(pair[0], len(texts)) for pair in value.pairs):
        return False
    return (world_keeps(value.world, lands, rest_of(texts, value.numbers))
            and is_shown(lands, texts, value.numbers, value.pairs))


class ShowsIdle(Case):
    """Idle and Needed."""

    def agrees(self, lands, texts, number, value):
        wanted = is_right_idle(lands, texts, number, value)
        told = shows_idle(book_read(lands, texts), number, value)
        self.assertIs(told, wanted, (texts, number, getattr(value, "parts", value)))
        return wanted

    def test_bent(self):
        for texts, number in ((["a deep b", "b holdsdeep a"], 1), (["a deep b", "! - a b"], 1), (["a deep b", "! - a b"], 0),
                              (["a deep|rim b", "a same|deep|rim|holdsdeep|holdsrim b"], 1), (["a deep b"], 0)):
            paper = is_idle(book_read("ab", texts), number)
            self.assertTrue(self.agrees("ab", texts, number, paper))
            met = [self.agrees("ab", texts, number, value) for value in bent(paper)]
            self.assertIn(False, met)
            self.assertTrue(self.agrees("ab", texts, number, type(paper)(*as_lists(paper.parts))))
            self.assertFalse(self.agrees("ab", texts, number, below(paper)))
            self.assertFalse(self.agrees("ab", texts, number, Paper(paper.word, *paper.parts)))
            self.assertFalse(self.agrees("ab", texts, number, Denial(paper.word, *paper.parts)))

    def test_worlds(self):
        chance = chances(281)
        worlds = [World(some_rows(chance, "ab", 2, 3)) for _ in range(40)] + [World.read("a b c"), World.read("a")]
        met = []
        for _ in range(25):
            texts = [some_saying_text(chance, "ab", 1, 3) for _ in range(chance.randint(1, 2))]
            for number in range(len(texts)):
                met.extend(self.agrees("ab", texts, number, Needed(world)) for world in worlds)
        self.assertGreater(met.count(True), 40)

    def test_whether_the_others_are_possible_is_not_asked(self):
        texts = ["a deep b", "b deep a", "a meets b"]
        rest = book_read("ab", texts[:2])
        self.assertFalse(possible(rest))
        told = Idle([possible(book_read("ab", texts[:2] + [one])) for one in against_by_definition("a meets b")])
        self.assertTrue(self.agrees("ab", texts, 2, told))
        self.assertFalse(self.agrees("ab", texts, 2, Idle(told.papers[:-1])))

    def test_other_values(self):
        book, needed = Book.read("a b : a deep b / b holdsdeep a"), Book.read("a b : a deep b")
        paper = is_idle(book, 0)
        surely = asked(book.without([0]), Saying.read("a deep b"))
        self.assertEqual(surely.papers, paper.papers)
        for value in odd_values() + [book, surely, paper.papers, Idle, Needed]:
            self.assertIs(shows_idle(book, 0, value), False)
            self.assertIs(shows_idle(needed, 0, value), False)
            self.assertIs(shows_idle(book, 0, Idle(value)) or shows_idle(needed, 0, Needed(value)), value == paper.papers
                          and isinstance(value, tuple))
            self.assertIs(shows_idle(book, 0, Idle(paper.papers[:-1] + (value,))), False)
        self.assertIs(shows_idle(value=paper, number=0, book=book), True)
        self.assertIs(shows_idle(book, 0, Idle([below(paper.papers[0]), *paper.papers[1:]])), False)


class ShowsLeast(Case):
    """LeastBook."""

    def agrees(self, lands, texts, value):
        wanted = is_right_least(lands, texts, value)
        self.assertIs(shows_least(book_read(lands, texts), value), wanted, (texts, getattr(value, "parts", value)))
        return wanted

    def test_bent(self):
        chance = chances(282)
        for texts in ([], ["a same a"], ["a deep b", "b same b"], ["a rim b", "b rim c", "a rim c"],
                      ["a deep b", "b deep c", "a deep c"]):
            paper = least_book(book_read("abc", texts))
            self.assertTrue(self.agrees("abc", texts, paper))
            for value in list(bent(paper))[::1 if len(texts) < 3 else 4]:
                self.agrees("abc", texts, value)
            self.assertTrue(self.agrees("abc", texts, LeastBook(*as_lists(paper.parts))))
            self.assertFalse(self.agrees("abc", texts, below(paper)))
        for _ in range(10):
            texts = told_once(chance, "abc", 3, ["deep", "apart", "meets"])
            if is_possible_by_definition("abc", texts):
                paper = least_book(book_read("abc", texts))
                for numbers in itertools.product((0, 1, 2), repeat=2):
                    self.agrees("abc", texts, LeastBook(numbers, paper.papers))

    def test_books_that_the_function_refuses(self):
        same = ["a same b", "a deep c"]
        papers = [Needed(World.read("a+c c / b")), Needed(World.read("a+b / c"))]
        self.assertTrue(self.agrees("abc", same, LeastBook([0, 1], papers)))
        self.assertFalse(self.agrees("abc", same, LeastBook([0, 1], papers[::-1])))
        bad = ["a deep b", "b deep c", "c deep a"]
        told = [Needed(World.read("a+b+c a+c a")), Needed(World.read("a+b+c a+b b")), Needed(World.read("a+b+c b+c c"))]
        self.assertTrue(self.agrees("abc", bad, LeastBook([0, 1, 2], told)))
        # Two of them idle, each by the others: but the lot that is left does not tell them.
        twins = ["a same b", "a apart c", "b apart c"]
        book = book_read("abc", twins)
        idle = [is_idle(book, number) for number in range(3)]
        self.assertEqual([bool(one) for one in idle], [False, True, True])
        self.assertFalse(self.agrees("abc", twins, LeastBook([0], idle)))
        self.assertFalse(self.agrees("abc", twins, LeastBook([0, 1], idle)))

    def test_the_papers_are_of_the_right_books(self):
        book = Book.read("a b c d : a deep b / b deep c / c deep d / a deep c / b deep d / a deep d")
        paper = least_book(book)
        whole = [is_idle(book, number) for number in range(6)]
        self.assertIs(shows_least(book, paper), True)
        self.assertNotEqual(whole[3], paper.papers[3])
        self.assertIs(shows_least(book, LeastBook(paper.numbers, whole)), False)
        self.assertIs(shows_least(book, LeastBook((0, 1, 2), paper.papers[:5])), False)
        self.assertIs(shows_least(book, LeastBook((0, 1), paper.papers)), False)
        self.assertIs(shows_least(book, LeastBook((0, 1, 2, 3), paper.papers)), False)
        self.assertIs(shows_least(book, LeastBook((False, True, 2), paper.papers)), False)
        self.assertIs(shows_least(book, LeastBook((1, 0, 2), paper.papers)), False)

    def test_other_values(self):
        book = Book.read("a b c : a deep b / b deep c / a deep c")
        paper = least_book(book)
        for value in odd_values() + [book, paper.papers, Paper("leastbook", *paper.parts), LeastBook]:
            self.assertIs(shows_least(book, value), False)
            self.assertIs(shows_least(book, LeastBook(value, paper.papers)), False)
            self.assertIs(shows_least(book, LeastBook(paper.numbers[:1] + (value,), paper.papers)), False)
            self.assertIs(shows_least(book, LeastBook(paper.numbers, (value,) + paper.papers[1:])), False)
            self.assertIs(shows_least(book, LeastBook(paper.numbers, paper.papers[:2] + (value,))), False)
            if value is not paper.papers and value != paper.papers:
                self.assertIs(shows_least(book, LeastBook(paper.numbers, value)), False)
        self.assertIs(shows_least(value=paper, book=book), True)
        for at in range(3):
            papers = list(paper.papers)
            papers[at] = below(papers[at])
            self.assertIs(shows_least(book, LeastBook(paper.numbers, papers)), False)


class ShowsStruck(Case):
    """Struck."""

    def agrees(self, lands, texts, value):
        wanted = is_right_struck(lands, texts, value)
        self.assertIs(shows_struck(book_read(lands, texts), value), wanted, (texts, getattr(value, "parts", value)))
        return wanted

    def test_bent(self):
        for texts in ([], ["a deep b"], ["! a"], ["a deep b", "b deep a"], ["a deep b", "b deep a", "a deep b"],
                      ["a apart|deep b", "b deep a", "a meets b"]):
            paper = taken_back(book_read("ab", texts))
            self.assertTrue(self.agrees("ab", texts, paper))
            for value in list(bent(paper)):
                self.agrees("ab", texts, value)
            self.assertTrue(self.agrees("ab", texts, Struck(*as_lists(paper.parts))))
            self.assertFalse(self.agrees("ab", texts, below(paper)))

    def test_each_lot(self):
        texts = ["a deep b", "b deep c", "c deep a", "a apart c"]
        book = book_read("abc", texts)
        pairs = taken_back(book).pairs
        met = []
        for size in range(5):
            for lot in itertools.combinations(range(4), size):
                told = possible(book.without(lot))
                for world in [told.world] if told else [World.read("a+b+c b+c c"), World.read("a / b / c")]:
                    for some in (pairs, pairs[:2], pairs[1:], pairs + pairs[:1], pairs[::-1], ()):
                        met.append(self.agrees("abc", texts, Struck(lot, world, some)))
        self.assertGreater(met.count(True), 5)

    def test_lots_that_are_no_quarrels(self):
        texts = ["a deep b", "b deep a", "a same a"]
        world = World.read("a+b b / a")
        wide = Barred([[["deep", "deep", "same"], ["beyond", 0]]])
        self.assertTrue(self.agrees("ab", texts, Struck([1], World.read("a+b b"), [([0, 1, 2], wide)])))
        self.assertFalse(self.agrees("ab", texts, Struck([2], world, [([0, 1, 2], wide)])))
        self.assertFalse(self.agrees("ab", texts, Struck([1], World.read("a+b b"), [([0, 2], wide)])))
        self.assertFalse(self.agrees("ab", texts, Struck([1], World.read("a+b b"), [])))
        self.assertFalse(self.agrees("ab", texts, Struck([0, 1], World.read("a+b b"), [([0, 1, 2], wide)])))
        self.assertFalse(self.agrees("ab", texts, Struck([1], World.read("a+b b"), [([0, 2, 1], wide)])))

    def test_other_values(self):
        book = Book.read("a b : a deep b / b deep a / ! * a b")
        paper = taken_back(book)
        self.assertIs(shows_struck(value=paper, book=book), True)
        for value in odd_values() + [book, Paper("struck", *paper.parts), Struck]:
            self.assertIs(shows_struck(book, value), False)
            self.assertIs(shows_struck(book, Struck(value, paper.world, paper.pairs)), False)
            self.assertIs(shows_struck(book, Struck([value], paper.world, paper.pairs)), False)
            self.assertIs(shows_struck(book, Struck(paper.numbers, value, paper.pairs)), False)
            self.assertIs(shows_struck(book, Struck(paper.numbers, paper.world, value)), False)
            self.assertIs(shows_struck(book, Struck(paper.numbers, paper.world, [value, *paper.pairs])), False)
            self.assertIs(shows_struck(book, Struck(paper.numbers, paper.world, [(value, paper.pairs[0][1])])), False)
            self.assertIs(shows_struck(book, Struck(paper.numbers, paper.world, [(paper.pairs[0][0], value)])), False)
        pairs = [(lot, below(barred)) for lot, barred in paper.pairs]
        self.assertIs(shows_struck(book, Struck(paper.numbers, paper.world, pairs)), False)
