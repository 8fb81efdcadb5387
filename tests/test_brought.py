"""Sayings that are brought by the needs of a book."""

from borderwords.books import Book
from borderwords.brought import Breaks, Brought, Unbrought, brought
from borderwords.check_sure import shows_brought
from borderwords.errors import BadBook, BadSaying, Impossible, NoLand, TooMany
from borderwords.papers import Denial, Paper
from borderwords.possible import possible
from borderwords.sayings import Saying
from tests.support import (
    Case, barred_places, below, bent, book_read, borders_in_order, chances, had_places, is_exact, is_one_of,
    is_possible_by_definition, names_of, odd_values, some_plain_text, some_saying_text, told_by_definition)
from tests.test_sure import NO_BOOKS, NO_SAYINGS, state_of


def told_of(lands, texts, text):
    """What bears on bringing: the let borders, those barred, the needs of the book, and of the saying.

    Of the needs of the saying the places are those of the borders that show it.
    """
    lands = tuple(sorted(lands))
    let, needs = told_by_definition(lands, texts)
    order = borders_in_order(lands)
    own = []
    for (kind, _), places in had_places(lands, text)[len(lands):]:
        shown = {at for at, (p, q) in enumerate(order)
                 if any(order.index(pair) in places for pair in ((p, p), (p, q), (q, q)))}
        own.append(((kind, len(texts)), shown))
    return let, let & barred_places(lands, text), needs, own


def named(lands, place):
    """The border at this place, as papers tell it."""
    return tuple(names_of(cell) for cell in borders_in_order(tuple(sorted(lands)))[place])


def wanted_paper(lands, texts, text):
    """The paper that is to be told."""
    let, barred, needs, own = told_of(lands, texts, text)
    if barred:
        return Breaks(named(lands, min(barred)))
    found = []
    for need, shown in own:
        bringing = [one for one, places in needs if let & places <= shown]
        if not bringing:
            return Unbrought(need, [named(lands, min(let & places - shown)) for one, places in needs])
        found.append(bringing[0])
    return Brought(found)


def is_right(lands, texts, text, value):
    """Whether a value is a right paper by the definitions."""
    let, barred, needs, own = told_of(lands, texts, text)
    if type(value) is Breaks:
        return is_one_of(value.border, [named(lands, place) for place in barred])
    if type(value) is Brought:
        if barred or not isinstance(value.needs, tuple) or len(value.needs) != len(own):
            return False
        return all(is_one_of(told, [one for one, places in needs if let & places <= shown])
                   for told, (need, shown) in zip(value.needs, own))
    if type(value) is not Unbrought or not isinstance(value.borders, tuple) or len(value.borders) != len(needs):
        return False
    return any(is_exact(value.need, need) and all(
        is_one_of(border, [named(lands, place) for place in let & places - shown])
        for border, (one, places) in zip(value.borders, needs)) for need, shown in own)


def single_text(chance, lands, depth=2):
    """The text of a saying of one word."""
    return some_saying_text(chance, lands, depth, 1)


class BroughtSayings(Case):
    """Brought, Breaks, Unbrought."""

    def right(self, lands, texts, text):
        book, saying = book_read(lands, texts), Saying.read(text)
        paper = brought(book, saying)
        wanted = wanted_paper(lands, texts, text)
        self.assertIs(type(paper), type(wanted))
        self.assertTrue(is_exact(paper.parts, wanted.parts), (texts, text))
        self.assertEqual(bool(paper), state_of(lands, texts, text) == "surely")
        self.assertIs(shows_brought(book, saying, paper), True)
        self.assertTrue(is_right(lands, texts, text, paper))
        self.assertEqual(brought(book_read(lands, texts), saying), paper)
        return paper.word

    def test_by_definition(self):
        chance = chances(211)
        met = []
        for lands in ("a", "ab", "abc"):
            for _ in range(70):
                texts = [single_text(chance, lands) for _ in range(chance.randint(0, 3))]
                if is_possible_by_definition(lands, texts):
                    met.append(self.right(lands, texts, single_text(chance, lands)))
        self.assertGreater(min(met.count(word) for word in ("brought", "breaks", "unbrought")), 5)

    def test_plain_books(self):
        chance = chances(212)
        for _ in range(30):
            texts = [some_plain_text(chance, "abcd") for _ in range(4)]
            if is_possible_by_definition("abcd", texts):
                self.right("abcd", texts, some_plain_text(chance, "abcd"))

    def test_edges(self):
        for lands, texts, text, word in (
                ("a", [], "a same a", "brought"), ("a", [], "! a", "breaks"), ("a", [], "! - a a", "brought"),
                ("a", [], "- a a same - a a", "unbrought"), ("a", [], "a meets a", "breaks"),
                ("ab", [], "a overlaps b", "unbrought"), ("ab", ["a deep b"] * 9, "b holdsdeep a", "brought"),
                ("ab", ["a overlaps b"], "a overlaps b", "brought"), ("ab", ["a deep b"], "a rim b", "unbrought"),
                ("abcde", ["a deep b", "b deep c", "c deep d", "d deep e"], "a deep e", "brought")):
            self.assertEqual(self.right(lands, texts, text), word, (texts, text))
        self.assertEqual(brought(Book(["a"]), Saying.read("! - a a")), Brought([]))
        self.assertEqual(brought(Book.read("a b : a deep b"), Saying.read("b holdsdeep a")),
                         Brought([("land", "a"), ("land", "a"), ("beyond", 0)]))

    def test_refused(self):
        book, saying, bad = Book(["a", "b"]), Saying.read("a deep b"), Book.read("a b : a deep b / b deep a")
        ten = Book.read("a b : " + " / ".join(["a deep b"] * 10))
        several = [Book.read("a b : a deep|rim b")]
        for call in (brought, lambda book, saying: shows_brought(book, saying, None)):
            for value in odd_values() + NO_BOOKS + several:
                self.refused(BadBook("book"), call, value, saying)
                self.refused(BadBook("book"), call, value, value)
            for value in odd_values() + NO_SAYINGS + [Saying.read("a deep|rim b")]:
                self.refused(BadSaying("saying"), call, book, value)
                self.refused(BadSaying("saying"), call, bad, value)
            self.refused(NoLand("c"), call, bad, Saying.read("d deep * c a"))
            self.refused(NoLand("c"), call, ten, Saying.read("! c"))
            self.refused(TooMany("sayings", 10), call, ten, saying)
        self.refused(Impossible(possible(bad)), brought, bad, saying)
        worst = Book.read("a b : " + " / ".join(["a deep b", "b deep a"] * 5))
        self.refused(Impossible(possible(worst)), brought, worst, saying)
        self.refused(TooMany("sayings", 10), shows_brought, worst, saying, None)
        self.assertTrue(brought(saying=saying, book=ten.without([0])))

    def test_papers(self):
        for kind, parts, fields in ((Brought, ([1],), ["needs"]), (Breaks, ([1],), ["border"]),
                                    (Unbrought, ([1], [[2]]), ["need", "borders"])):
            paper = kind(*parts)
            self.assertEqual(paper.word, kind.__name__.lower())
            self.assertEqual(paper.parts, ((1,), ((2,),))[:len(parts)])
            self.assertEqual(tuple(getattr(paper, field) for field in fields), paper.parts)
            self.assertEqual(kind(**dict(zip(fields, parts))), paper)
        self.assertEqual((Brought.__bases__, Breaks.__bases__, Unbrought.__bases__), ((Paper,), (Denial,), (Denial,)))


class ShowsBrought(Case):
    """Which papers are right."""

    def agrees(self, lands, texts, text, value):
        wanted = is_right(lands, texts, text, value)
        told = shows_brought(book_read(lands, texts), Saying.read(text), value)
        self.assertIs(told, wanted, (texts, text, getattr(value, "parts", value)))
        return wanted

    def test_bent(self):
        chance = chances(213)
        met = []
        for _ in range(150):
            texts = [single_text(chance, "ab", 1) for _ in range(2)]
            if is_possible_by_definition("ab", texts):
                text = single_text(chance, "ab", 1)
                paper = wanted_paper("ab", texts, text)
                for value in bent(paper):
                    met.append((type(paper), self.agrees("ab", texts, text, value)))
        self.assertEqual(set(met), {(kind, right) for kind in (Brought, Breaks, Unbrought) for right in (True, False)})

    def test_all_papers(self):
        texts, text = ["a rim b"], "a rim b"
        needs = [need for need, places in told_of("ab", texts, text)[2]]
        met = [self.agrees("ab", texts, text, Brought((one, other, third, fourth)))
               for one in needs for other in needs for third in needs[2:] for fourth in needs[2:]]
        self.assertIn(True, met)
        borders = [named("ab", place) for place in range(10)]
        for text in ("a deep b", "a same b", "a apart b", "! - b a"):
            self.assertEqual([self.agrees("ab", texts, text, Breaks(border)) for border in borders].count(True),
                             len(told_of("ab", texts, text)[1]))
            for border in borders:
                self.agrees("ab", texts, text, Breaks(border[::-1]))

    def test_needs_that_are_brought_do_not_do_where_a_border_is_barred(self):
        self.assertFalse(self.agrees("a", [], "! a", Brought([])))
        self.assertTrue(self.agrees("a", [], "! - a a", Brought([])))
        both = Brought([("land", "a"), ("land", "b")])
        self.assertFalse(self.agrees("ab", [], "a apart b", both))
        self.assertTrue(self.agrees("ab", ["a apart b"], "a apart b", both))

    def test_an_unbrought_beside_a_border_that_breaks(self):
        # The paper that is told is a Breaks; an Unbrought is right, too.
        texts, text = [], "a deep b"
        self.assertEqual(brought(book_read("ab", texts), Saying.read(text)).word, "breaks")
        b, ab = ("b",), ("a", "b")
        both = Unbrought(("beyond", 0), [(ab, ab), (ab, ab)])
        self.assertTrue(self.agrees("ab", texts, text, both))
        self.assertFalse(self.agrees("ab", texts, text, Unbrought(("beyond", 0), [(ab, ab), (b, b)])))

    def test_books_that_are_not_possible(self):
        chance = chances(214)
        met = []
        for _ in range(40):
            texts = [single_text(chance, "ab", 1) for _ in range(2)]
            if not is_possible_by_definition("ab", texts):
                text = single_text(chance, "ab", 1)
                paper = wanted_paper("ab", texts, text)
                met.append(self.agrees("ab", texts, text, paper))
                for value in list(bent(paper))[::7]:
                    self.agrees("ab", texts, text, value)
        self.assertGreater(met.count(True), 5)

    def test_other_values(self):
        book, saying = Book.read("a b : a deep b"), Saying.read("a deep b")
        paper = brought(book, saying)
        self.assertIs(shows_brought(book, saying, paper.needs), False)
        for value in odd_values() + [book, saying, Paper("brought", paper.needs), Brought]:
            self.assertIs(shows_brought(book, saying, value), False)
            self.assertIs(shows_brought(book, saying, Brought(value)), False)
            self.assertIs(shows_brought(book, saying, Breaks(value)), False)
            self.assertIs(shows_brought(book, saying, Unbrought(value, value)), False)
            self.assertIs(shows_brought(book, saying, Brought(paper.needs[:2] + (value,))), False)
        self.assertIs(shows_brought(book=book, saying=saying, value=Brought([list(need) for need in paper.needs])), True)
        self.assertIs(shows_brought(book, saying, below(paper)), False)
        rim, deep = Saying.read("a rim b"), Saying.read("a meets b")
        for text in (rim, deep):
            self.assertIs(shows_brought(book, text, brought(book, text)), True)
            self.assertIs(shows_brought(book, text, below(brought(book, text))), False)
