"""Sure sayings, sayings that are never so, open ones."""

from borderwords.books import Book
from borderwords.check_sure import shows_asked
from borderwords.errors import BadBook, BadRegion, BadSaying, Impossible, NoLand, TooMany
from borderwords.papers import Denial, Paper
from borderwords.possible import possible
from borderwords.regions import Land, Region
from borderwords.sayings import Nowhere, Says, Saying
from borderwords.sure import Never, Open, Surely, asked, others, strongest_of
from borderwords.worlds import World
from tests.support import (
    EIGHT, Case, against_by_definition, book_read, chances, is_possible_by_definition, keeps_by_definition, odd_values,
    rows_of, says_parts, single_texts, some_plain_text, some_region_text, some_rows, some_saying_text, world_keeps)

NO_BOOKS = ["a :", ["a"], Saying.read("! a"), World.read("a")]
NO_SAYINGS = ["a deep b", Land("a"), ["! a"], Book(["a"])]


def state_of(lands, texts, text):
    """Whether a saying is surely so, never, or open by a possible book, by looks at borders."""
    if not any(is_possible_by_definition(lands, texts + [one]) for one in against_by_definition(text)):
        return "surely"
    return "open" if is_possible_by_definition(lands, texts + [text]) else "never"


class AskedSayings(Case):
    """Surely, Never, Open."""

    def right(self, lands, texts, text):
        """The paper for this saying is right by the definitions; its word."""
        book, saying = book_read(lands, texts), Saying.read(text)
        paper = asked(book, saying)
        state = state_of(lands, texts, text)
        self.assertEqual(paper.word, state, (texts, text))
        self.assertIs(type(paper), {"surely": Surely, "never": Never, "open": Open}[state])
        if state == "open":
            self.assertTrue(world_keeps(paper.one, lands, texts + [text]))
            self.assertTrue(world_keeps(paper.other, lands, texts))
            self.assertFalse(keeps_by_definition(rows_of(paper.other), text))
            self.assertLessEqual(max(len(paper.one), len(paper.other)), 1400)
        else:
            rows = against_by_definition(text) if state == "surely" else single_texts([text])
            told = [one if isinstance(one, str) else one[0] for one in rows]
            self.assertEqual(paper.papers, tuple(possible(book_read(lands, texts + [one])) for one in told))
        self.assertEqual(asked(book_read(lands, texts), Saying.read(text)), paper)
        self.assertIs(shows_asked(book, saying, paper), True)
        return state

    def test_by_definition(self):
        chance = chances(201)
        met = []
        for lands in ("a", "ab", "abc"):
            for _ in range(120):
                texts = [some_saying_text(chance, lands, 2, 2) for _ in range(chance.randint(0, 3))]
                if is_possible_by_definition(lands, texts):
                    met.append(self.right(lands, texts, some_saying_text(chance, lands)))
        self.assertGreater(min(met.count(word) for word in ("surely", "never", "open")), 10)

    def test_plain_books(self):
        chance = chances(202)
        met = []
        for _ in range(60):
            texts = [some_plain_text(chance, "abcd") for _ in range(3)]
            if is_possible_by_definition("abcd", texts):
                met.append(self.right("abcd", texts, some_plain_text(chance, "abcd", 5)))
        self.assertGreater(min(met.count(word) for word in ("surely", "never", "open")), 3)

    def test_worlds_agree(self):
        chance = chances(203)
        worlds = [World(some_rows(chance, "abc", 2, 3)) for _ in range(400)]
        worlds = [world for world in worlds if world.lands == ("a", "b", "c")]
        for _ in range(40):
            texts = [some_saying_text(chance, "abc", 1, 3) for _ in range(2)]
            keeping = [world for world in worlds if world_keeps(world, "abc", texts)]
            if keeping:
                text = some_saying_text(chance, "abc", 1)
                word = asked(book_read("abc", texts), Saying.read(text)).word
                kept = {keeps_by_definition(rows_of(world), text) for world in keeping}
                if word != "open":
                    self.assertEqual(kept, {word == "surely"}, (texts, text))

    def test_edges(self):
        for lands, texts, text, word in (
                ("a", [], "a same a", "surely"), ("a", [], "! a", "never"), ("a", [], "a deep|rim a", "never"),
                ("a", [], "! - a a", "surely"), ("a", [], "- a a same - a a", "never"), ("ab", [], "a deep b", "open"),
                ("ab", [], "! * a b", "open"), ("ab", ["a apart|meets b"], "! * a b", "surely"),
                ("ab", ["! * a b"], "a apart|meets b", "surely"), ("ab", ["! * a b"], "* a b apart b", "never"),
                ("ab", ["a deep b", "a deep b"], "b holdsdeep a", "surely"), ("ab", ["a deep b"], "! - a b", "surely"),
                ("ab", ["a deep b"], "! - b a", "never"), ("ab", [], "a same + a b", "open"),
                ("ab", [], "a same|deep|rim + a b", "surely"), ("ab", ["a deep b"] * 9, "b same|holdsdeep a", "surely"),
                ("abc", ["a deep|rim b", "b deep|rim c"], "a deep|rim c", "surely"),
                ("abcde", ["a deep b", "b deep c", "c deep d", "d deep e"], "a deep e", "surely")):
            self.assertEqual(self.right(lands, texts, text), word, (texts, text))

    def test_the_papers_and_their_order(self):
        book = Book.read("a b : a deep b")
        paper = asked(book, Saying.read("b same|holdsdeep a"))
        words = [one.rows[0][0] for one in paper.papers]
        self.assertEqual(words, [("deep", word) for word in EIGHT if word not in ("same", "holdsdeep")] + [("deep",)] * 2)
        self.assertEqual([one.rows[0][1] for one in paper.papers[-2:]], [("land", "a"), ("land", "a")])
        apart = asked(Book.read("a b : a apart b"), Saying.read("a apart|meets b"))
        self.assertEqual([one.rows[0][1] for one in apart.papers[-2:]], [("land", "a"), ("land", "b")])
        self.assertEqual(len(asked(book, Saying.read("a same|deep|rim a")).papers), 7)
        self.assertEqual(asked(book, Saying.read("! - a b")).papers,
                         (possible(Book.read("a b : a deep b / - a b same - a b")),))
        never = asked(book, Saying.read("b apart|meets|rim a"))
        self.assertEqual([one.rows[0][0] for one in never.papers], [("deep", word) for word in ("apart", "meets", "rim")])
        self.assertEqual(asked(book, Saying.read("! a")).papers, (possible(Book.read("a b : a deep b / ! a")),))
        several = asked(Book.read("a b : a deep|rim b"), Saying.read("a apart b"))
        self.assertEqual([row[0] for row in several.papers[0].rows], [("deep", "apart"), ("rim", "apart")])

    def test_what_is_sure_stays_sure(self):
        chance = chances(204)
        for _ in range(40):
            texts = [some_saying_text(chance, "abc", 1, 2) for _ in range(3)]
            if is_possible_by_definition("abc", texts):
                text = some_saying_text(chance, "abc", 1)
                words = [asked(book_read("abc", texts[:many]), Saying.read(text)).word for many in range(4)]
                for one, other in zip(words, words[1:]):
                    self.assertTrue(one in ("open", other), (texts, text))

    def test_exchanged(self):
        chance = chances(205)
        for _ in range(60):
            texts = [some_plain_text(chance, "abc", 3) for _ in range(2)]
            s, t = (Saying.read(some_plain_text(chance, "abc", 4)) for _ in range(2))
            book = book_read("abc", texts)
            if possible(book.with_saying(s)) and possible(book.with_saying(others(t))):
                self.assertEqual(asked(book.with_saying(s), t).word == "surely",
                                 asked(book.with_saying(others(t)), others(s)).word == "surely")

    def test_refused(self):
        book, saying, bad = Book(["a", "b"]), Saying.read("a deep b"), Book.read("a b : a deep b / b deep a")
        ten = Book.read("a b : " + " / ".join(["a deep b"] * 10))
        for value in odd_values() + NO_BOOKS:
            self.refused(BadBook("book"), asked, value, saying)
            self.refused(BadBook("book"), asked, value, value)
        for value in odd_values() + NO_SAYINGS:
            self.refused(BadSaying("saying"), asked, book, value)
            self.refused(BadSaying("saying"), asked, bad, value)
        self.refused(NoLand("c"), asked, book, Saying.read("d deep * c a"))
        self.refused(NoLand("c"), asked, bad, Saying.read("! c"))
        self.refused(NoLand("c"), asked, ten, Saying.read("! c"))
        self.refused(Impossible(possible(bad)), asked, bad, saying)
        worst = Book.read("a b : " + " / ".join(["a deep b", "b deep a"] * 5))
        self.refused(Impossible(possible(worst)), asked, worst, saying)
        self.refused(TooMany("sayings", 10), asked, ten, saying)
        self.assertTrue(asked(saying=saying, book=ten.without([0])))

    def test_papers(self):
        for kind, below in ((Surely, Paper), (Never, Denial)):
            paper = kind([1, [2]])
            self.assertEqual((paper.word, paper.parts, paper.papers), (kind.__name__.lower(), ((1, (2,)),), (1, (2,))))
            self.assertEqual((kind(papers=(1, (2,))), kind.__bases__), (paper, (below,)))
        paper = Open([1], 2)
        self.assertEqual((paper.word, paper.parts, paper.one, paper.other), ("open", ((1,), 2), (1,), 2))
        self.assertEqual((Open(other=2, one=(1,)), bool(paper), Open.__bases__), (paper, True, (Paper,)))
        self.assertNotEqual(Surely(()), Never(()))


class Others(Case):
    """The words that a Says lacks."""

    def test_others(self):
        chance = chances(206)
        for _ in range(60):
            text = some_saying_text(chance, "abc")
            if text.startswith("! "):
                self.refused(BadSaying("saying"), others, Saying.read(text))
            else:
                x, words, y = says_parts(text)
                rest = "|".join(word for word in EIGHT if word not in words)
                self.assertEqual(str(others(Saying.read(text))), f"{x} {rest} {y}")
                self.assertEqual(others(others(saying=Saying.read(text))), Saying.read(text))

    def test_refused(self):
        for value in odd_values() + NO_SAYINGS + [Nowhere(Land("a"))]:
            self.refused(BadSaying("saying"), others, value)


class StrongestOf(Case):
    """The words of two regions in worlds that keep a book."""

    def test_by_definition(self):
        chance = chances(207)
        met = []
        for lands in ("a", "ab", "abc"):
            for _ in range(80):
                texts = [some_saying_text(chance, lands, 2, 4) for _ in range(chance.randint(0, 3))]
                if is_possible_by_definition(lands, texts):
                    x, y = some_region_text(chance, lands), some_region_text(chance, lands)
                    wanted = [word for word in EIGHT if is_possible_by_definition(lands, texts + [f"{x} {word} {y}"])]
                    if any(is_possible_by_definition(lands, texts + [f"! {one}"]) for one in (x, y)):
                        wanted.append("nowhere")
                    told = strongest_of(book_read(lands, texts), Region.read(x), Region.read(y))
                    self.assertEqual(told, tuple(wanted), (texts, x, y))
                    met.append(told)
        self.assertGreater(len(set(met)), 15)

    def test_edges(self):
        a, none = Land("a"), Region.read("- a a")
        book = Book(["a", "b"])
        self.assertEqual(strongest_of(book, a, a), ("same",))
        self.assertEqual(strongest_of(book, none, a), ("nowhere",))
        self.assertEqual(strongest_of(book, a, none), ("nowhere",))
        self.assertEqual(strongest_of(book, a, Land("b")), EIGHT)
        self.assertEqual(strongest_of(other=Region.read("- b a"), one=a, book=book), ("apart", "meets", "nowhere"))
        nine = Book.read("a b : " + " / ".join(["a deep|rim b"] + ["a deep b"] * 8))
        self.assertEqual(strongest_of(nine, a, Land("b")), ("deep",))

    def test_refused(self):
        book, bad = Book(["a", "b"]), Book.read("a b : a deep b / b deep a")
        ten = Book.read("a b : " + " / ".join(["a deep b"] * 10))
        a, c = Land("a"), Land("c")
        for value in odd_values() + NO_BOOKS:
            self.refused(BadBook("book"), strongest_of, value, a, a)
            self.refused(BadBook("book"), strongest_of, value, value, value)
        for value in odd_values() + ["a", Saying.read("! a")]:
            self.refused(BadRegion("one"), strongest_of, bad, value, value)
            self.refused(BadRegion("other"), strongest_of, bad, c, value)
        self.refused(NoLand("c"), strongest_of, bad, Region.read("* d c"), Land("e"))
        self.refused(NoLand("e"), strongest_of, bad, a, Region.read("- a e"))
        self.refused(NoLand("c"), strongest_of, ten, c, a)
        self.refused(Impossible(possible(bad)), strongest_of, bad, a, a)
        self.refused(TooMany("sayings", 10), strongest_of, ten, a, a)
        self.assertEqual(Says(a, ["deep"], c).lands, ("a", "c"))
