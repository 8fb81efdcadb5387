"""Idle sayings."""

from borderwords.books import Book
from borderwords.check_least import shows_idle
from borderwords.errors import BadBook, Impossible, NoSaying
from borderwords.idle import Idle, Needed, idle_by_third, is_idle
from borderwords.papers import Denial, Paper
from borderwords.possible import possible
from borderwords.sayings import Saying
from borderwords.sure import asked
from tests.support import (
    Case, against_by_definition, book_read, chances, is_possible_by_definition, keeps_by_definition, odd_values,
    rows_of, some_plain_text, some_saying_text, world_keeps)
from tests.test_closing import BY
from tests.test_sure import NO_BOOKS

NO_NUMBERS = [-1, 2, 10 ** 30, "0", 0.0]


def without(texts, number):
    """The texts without the one of this number."""
    return texts[:number] + texts[number + 1:]


def tell(lands, texts, text):
    """Whether sayings tell another one: whether each world of these lands that keeps them keeps it."""
    return not any(is_possible_by_definition(lands, list(texts) + [one]) for one in against_by_definition(text))


class IdleSayings(Case):
    """Idle, Needed."""

    def right(self, lands, texts, number):
        book, rest = book_read(lands, texts), without(texts, number)
        paper = is_idle(book, number)
        idle = tell(lands, rest, texts[number])
        self.assertIs(type(paper), Idle if idle else Needed, (texts, number))
        if idle:
            self.assertEqual(paper.papers, asked(book_read(lands, rest), Saying.read(texts[number])).papers)
        else:
            self.assertTrue(world_keeps(paper.world, lands, rest))
            self.assertFalse(keeps_by_definition(rows_of(paper.world), texts[number]))
        self.assertEqual(is_idle(book_read(lands, texts), number), paper)
        self.assertIs(shows_idle(book, number, paper), True)
        return idle

    def test_by_definition(self):
        chance = chances(251)
        met = []
        for lands in ("a", "ab", "abc"):
            for _ in range(60):
                texts = [some_saying_text(chance, lands, 1, 3) for _ in range(chance.randint(1, 3))]
                number = chance.randrange(len(texts))
                if is_possible_by_definition(lands, without(texts, number)):
                    met.append(self.right(lands, texts, number))
        self.assertGreater(met.count(False), 20)

    def test_plain_books(self):
        chance = chances(254)
        met = []
        for _ in range(300):
            texts = [some_plain_text(chance, "abc", 2) for _ in range(3)] + [some_plain_text(chance, "abc", 6)]
            number = chance.choice([0, 3, 3])
            if is_possible_by_definition("abc", without(texts, number)):
                met.append(self.right("abc", texts, number))
        self.assertGreater(min(met.count(True), met.count(False)), 10)

    def test_edges(self):
        for lands, texts, number, idle in (
                ("ab", ["a deep b", "a deep b"], 0, True), ("ab", ["a deep b", "a deep b"], 1, True),
                ("ab", ["a deep b", "b holdsdeep a"], 1, True), ("a", ["a same a"], 0, True), ("a", ["! - a a"], 0, True),
                ("ab", ["a deep b"], 0, False), ("a", ["! a"], 0, False), ("a", ["a deep a"], 0, False),
                ("ab", ["a deep b", "b deep a"], 0, False), ("ab", ["a deep b", "! * a b"], 1, False),
                ("abc", ["a same b", "a apart c", "b apart c"], 1, True),
                ("abc", ["a same b", "a apart c", "b apart c"], 2, True), ("abc", ["a same b", "a apart c"], 1, False),
                ("ab", ["a deep b"] * 10, 9, True), ("ab", ["a deep b"] * 9 + ["b deep a"], 9, False)):
            self.assertIs(self.right(lands, texts, number), idle, (texts, number))

    def test_refused(self):
        bad = Book.read("a b : a deep b / b deep a / ! * a b")
        book = Book.read("a b : a deep b / b holdsdeep a")
        for call in (is_idle, lambda book, number: shows_idle(book, number, None)):
            for value in odd_values() + NO_BOOKS:
                self.refused(BadBook("book"), call, value, 0)
                self.refused(BadBook("book"), call, value, value)
            for value in odd_values() + NO_NUMBERS:
                self.refused(NoSaying(value), call, book, value)
            self.refused(NoSaying(3), call, bad, 3)
            self.refused(NoSaying(0), call, Book(["a"]), 0)
        self.refused(Impossible(possible(bad.without([2]))), is_idle, bad, 2)
        self.assertIs(shows_idle(bad, 2, None), False)
        self.assertTrue(is_idle(number=1, book=book))

    def test_papers(self):
        idle, needed = Idle([1]), Needed([1])
        self.assertEqual((idle.word, idle.parts, idle.papers, bool(idle)), ("idle", ((1,),), (1,), True))
        self.assertEqual((needed.word, needed.parts, needed.world, bool(needed)), ("needed", ((1,),), (1,), False))
        self.assertEqual((Idle(papers=(1,)), Needed(world=(1,))), (idle, needed))
        self.assertEqual((Idle.__bases__, Needed.__bases__), ((Paper,), (Denial,)))


class IdleByThird(Case):
    """A third land whose words let just the word of a saying."""

    def wanted(self, lands, texts, number):
        rows = [text.split(" ") for text in texts]
        told = [(one, word, other) for one, word, other in rows]
        told += [tuple(str(Saying.read(text).turned()).split(" ")) for text in texts]
        one, word, other = rows[number]
        for land in sorted(set(lands) - {one, other}):
            for first, its, second in told:
                for third, further, fourth in told:
                    if (first, second, third, fourth) == (one, land, land, other):
                        if BY[its, further] == {word}:
                            return land
        return None

    def test_by_definition(self):
        chance = chances(252)
        met = []
        for _ in range(300):
            texts = []
            for _ in range(6):
                one, other = chance.choices("abcd", k=2)
                texts.append(f"{one} {chance.choice(['apart', 'same', 'same', 'deep', 'deep', 'rim'])} {other}")
            number = chance.randrange(6)
            wanted = self.wanted("abcd", texts, number)
            self.assertEqual(idle_by_third(book_read("abcd", texts), number), wanted, (texts, number))
            met.append(wanted)
        self.assertGreater(min(met.count("a"), met.count("c"), met.count("d")), 0)

    def test_a_saying_idle_by_a_third_land_is_idle(self):
        chance = chances(253)
        for _ in range(80):
            texts = [some_plain_text(chance, "abc") for _ in range(4)]
            number = chance.randrange(4)
            if is_possible_by_definition("abc", without(texts, number)):
                book = book_read("abc", texts)
                if idle_by_third(book, number) is not None:
                    self.assertTrue(is_idle(book, number), texts)

    def test_edges(self):
        for text, number, wanted in (
                ("a b c : a same b / a apart c / b apart c", 1, "b"), ("a b c : a same b / a apart c / b apart c", 0, None),
                ("a b c : b same a / b same c / c same a", 2, "b"), ("a b : a same b / a same a", 1, "b"),
                ("a b : a deep b / a same a", 1, None), ("a : a same a / a same a", 0, None),
                ("a b : a deep b / a deep b", 0, None), ("a b c d : a deep d / d deep c / a deep b / b deep c / a deep c", 4, "b"),
                ("a b c : a deep b / a rim b / b apart c / a deep c / a apart c", 4, "b"),
                ("a b c : a deep b / b deep a / b deep c / a deep c", 3, "b")):
            self.assertEqual(idle_by_third(Book.read(text), number), wanted, text)
        self.assertFalse(possible(Book.read("a b c : a deep b / b deep a / b deep c / a deep c")))

    def test_refused(self):
        book = Book.read("a b : a deep b / b holdsdeep a")
        for value in odd_values() + NO_BOOKS + [Book.read("a b : a deep|rim b"), Book.read("a b : ! a"),
                                                Book.read("a b : + a b deep b")]:
            self.refused(BadBook("book"), idle_by_third, value, 0)
            self.refused(BadBook("book"), idle_by_third, value, value)
        for value in odd_values() + NO_NUMBERS:
            self.refused(NoSaying(value), idle_by_third, book, value)
        self.assertIsNone(idle_by_third(number=0, book=book))
