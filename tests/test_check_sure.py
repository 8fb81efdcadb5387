"""Which papers of sure, of never, of open sayings are right."""

import itertools

from borderwords.books import Book
from borderwords.check_sure import shows_asked
from borderwords.errors import BadBook, BadSaying, NoLand, TooMany
from borderwords.papers import Denial, Paper
from borderwords.possible import Barred, possible
from borderwords.sayings import Saying
from borderwords.sure import Never, Open, Surely, asked
from borderwords.worlds import World
from tests.support import (
    Case, against_by_definition, as_lists, below, bent, book_read, chances, is_possible_by_definition,
    is_right_barred, keeps_by_definition, odd_values, rows_of, single_texts, some_rows, some_saying_text, world_keeps)
from tests.test_sure import NO_BOOKS, NO_SAYINGS


def is_right(lands, texts, text, value):
    """Whether a value is a right paper by the definitions."""
    if type(value) is Open:
        if not world_keeps(value.one, lands, texts) or not world_keeps(value.other, lands, texts):
            return False
        return [keeps_by_definition(rows_of(world), text) for world in (value.one, value.other)] == [True, False]
    if type(value) not in (Surely, Never) or not isinstance(value.papers, tuple):
        return False
    further = against_by_definition(text) if type(value) is Surely else [row[0] for row in single_texts([text])]
    return len(value.papers) == len(further) and all(
        is_right_barred(lands, texts + [one], paper) for one, paper in zip(further, value.papers))


class ShowsAsked(Case):
    """Surely, Never, Open."""

    def agrees(self, lands, texts, text, value):
        wanted = is_right(lands, texts, text, value)
        told = shows_asked(book_read(lands, texts), Saying.read(text), value)
        self.assertIs(told, wanted, (texts, text, getattr(value, "parts", value)))
        return wanted

    def test_bent(self):
        chance = chances(241)
        met = []
        for _ in range(30):
            texts = [some_saying_text(chance, "ab", 1, 2) for _ in range(chance.randint(0, 2))]
            text = some_saying_text(chance, "ab", 1, 7)
            if is_possible_by_definition("ab", texts):
                paper = asked(book_read("ab", texts), Saying.read(text))
                self.assertTrue(self.agrees("ab", texts, text, paper))
                for value in list(bent(paper))[:: 1 + chance.randint(0, 5)]:
                    met.append((paper.word, self.agrees("ab", texts, text, value)))
        words = ("surely", "never", "open")
        self.assertLessEqual(set(itertools.product(words, (False,))) | {("surely", True)}, set(met))

    def test_each_right_paper(self):
        book, saying = Book.read("a b : a deep b"), Saying.read("a deep|rim b")
        paper = asked(book, saying)
        self.assertEqual(paper.word, "surely")
        for at, one in enumerate(paper.papers):
            text = against_by_definition("a deep|rim b")[at]
            for need in [("land", "a"), ("land", "b"), ("one", 0), ("other", 0), ("one", 1), ("other", 1), ("touch", 1),
                         ("both", 1), ("alone", 1), ("beyond", 1), ("beyond", 0), ("edge", 1), ["land", "a"]]:
                other = Barred([[one.rows[0][0], need]])
                told = Surely(paper.papers[:at] + (other,) + paper.papers[at + 1:])
                self.assertEqual(self.agrees("ab", ["a deep b"], "a deep|rim b", told),
                                 is_right_barred("ab", ["a deep b", text], other))

    def test_worlds(self):
        chance = chances(242)
        worlds = [World(some_rows(chance, "ab", 2, 3)) for _ in range(15)] + [World.read("a b c"), World.read("a")]
        met = []
        for texts, text in (([], "a deep b"), (["a deep|rim b"], "a rim b"), (["! * a b"], "a meets b"),
                            (["a deep b"], "a deep b"), (["a deep b", "b deep a"], "a same b"), ([], "! * a b")):
            for one, other in itertools.product(worlds, worlds):
                met.append(self.agrees("ab", texts, text, Open(one, other)))
        self.assertGreater(met.count(True), 30)

    def test_books_that_are_not_possible(self):
        texts = ["a deep b", "b deep a"]
        book = book_read("ab", texts)
        for text in ("a same|deep b", "! a"):
            sure = Surely([possible(book_read("ab", texts + [one])) for one in against_by_definition(text)])
            never = Never([possible(book_read("ab", texts + row)) for row in single_texts([text])])
            self.assertTrue(self.agrees("ab", texts, text, sure))
            self.assertTrue(self.agrees("ab", texts, text, never))
            self.assertIs(shows_asked(book, Saying.read(text), Open(World.read("a+b b"), World.read("a+b a"))), False)

    def test_several_choices_and_lists(self):
        book, saying = Book.read("a b c : a deep|rim b / b deep|rim c"), Saying.read("a deep|rim c")
        paper = asked(book, saying)
        self.assertEqual((paper.word, len(paper.papers), len(paper.papers[0].rows)), ("surely", 8, 4))
        self.assertIs(shows_asked(book, saying, paper), True)
        rows = [Barred(as_lists(one.rows)) for one in paper.papers]
        self.assertIs(shows_asked(book, saying, Surely(rows)), True)
        self.assertIs(shows_asked(value=Surely(rows), saying=saying, book=book), True)
        self.assertIs(shows_asked(book, saying, Surely(rows[::-1])), False)
        self.assertIs(shows_asked(book, saying, Never(rows)), False)
        self.assertIs(shows_asked(book, saying, Surely([Barred(one.rows[:3]) for one in rows])), False)

    def test_other_values(self):
        for texts, text in ((["a deep b"], "a deep|rim b"), (["a deep b"], "a apart b"), ([], "a deep b")):
            book, saying = book_read("ab", texts), Saying.read(text)
            paper = asked(book, saying)
            self.assertIs(shows_asked(book, saying, paper), True)
            self.assertIs(shows_asked(book, saying, below(paper)), False)
            kind = type(paper)
            for value in odd_values() + [book, saying, Paper(paper.word, *paper.parts), kind, paper.parts,
                                         Denial(paper.word, *paper.parts)]:
                self.assertIs(shows_asked(book, saying, value), False)
                for parts in ([value] * len(paper.parts), [value, *paper.parts[1:]], [*paper.parts[:-1], value]):
                    self.assertIs(shows_asked(book, saying, kind(*parts)), False)
                if kind is not Open:
                    self.assertIs(shows_asked(book, saying, kind([value, *paper.papers[1:]])), False)
            if kind is not Open:
                for one in (below(paper.papers[0]), Denial("barred", paper.papers[0].rows), paper.papers[0].rows):
                    self.assertIs(shows_asked(book, saying, kind([one, *paper.papers[1:]])), False)

    def test_refused(self):
        book, saying, bad = Book(["a", "b"]), Saying.read("a deep b"), Book.read("a b : a deep b / b deep a")
        worst = Book.read("a b : " + " / ".join(["a deep b", "b deep a"] * 5))
        for value in odd_values() + NO_BOOKS:
            self.refused(BadBook("book"), shows_asked, value, saying, None)
            self.refused(BadBook("book"), shows_asked, value, value, None)
        for value in odd_values() + NO_SAYINGS:
            self.refused(BadSaying("saying"), shows_asked, bad, value, None)
        self.refused(NoLand("c"), shows_asked, bad, Saying.read("d deep * c a"), None)
        self.refused(NoLand("c"), shows_asked, worst, Saying.read("! c"), None)
        self.refused(TooMany("sayings", 10), shows_asked, worst, saying, None)
        self.assertIs(shows_asked(bad, saying, None), False)
