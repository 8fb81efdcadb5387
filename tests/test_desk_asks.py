"""What a desk answers to ask lines."""

from borderwords.books import Book
from borderwords.desk_asks import answer_of
from borderwords.desk_lines import ASKS, DEEDS
from borderwords.errors import (
    BadBook, BadDesk, BadText, Impossible, Misfit, NoLand, NoName, TooMany, WordsError)
from borderwords.idle import is_idle
from borderwords.maps import Map
from borderwords.possible import possible
from borderwords.shelves import Shelf
from borderwords.tables import by_threes
from borderwords.worlds import World
from tests.desking import by_definition, some_line
from tests.support import Case, chances, odd_values
from tests.test_desk_deeds import NO_SHELVES, SHELF, THINGS

ISLANDS = Book.read("a b c : a deep c / b deep c / + a b same c / a apart b")
MORE = Shelf(THINGS + [
    ("islands", ISLANDS), ("day", Map.read("a b c : deep apart meets").as_book()), ("only", Book.read("a b : b deep a")),
    ("night", Map.read("a b c : same meets meets").as_book()), ("away", Map.read("a b : apart").as_book()),
    ("near", Map.read("a b : deep").as_book()), ("wide", Book.read("a b : a deep|rim b")), ("far", Book(list("abcd"))),
    ("bent", Map(["a", "b", "c"], ["deep", "apart", "deep"]).as_book()), ("gone", Book.read("a b : ! * a b")),
    ("gap", World.read("a - - b / c")), ("five", World.read("a b c d e")), ("five2", World.read("a b c d e")),
    ("six", World([[["a", "b", "c"]] * 401])), ("ten", Book(["a", "b"], [THINGS[0][1].sayings[0]] * 10)),
    ("seven", Book(["a"], [Book.read("a : a same a").sayings[0]] * 7)), ("hole", Book.read("a c : a deep c / - c a apart a")),
    ("fence", Book.read("a b : a meets b")), ("four", Map(list("abcd"), ["same"] * 6).as_book())])


class AnswerOf(Case):
    """answer_of."""

    def told(self, line, answer):
        self.assertEqual(answer_of(MORE, line), answer, line)
        self.assertEqual(answer_of(shelf=MORE, line=line), answer)

    def test_each(self):
        self.assertEqual(answer_of(SHELF, "names"), "one two w heard nest v")
        self.assertEqual(answer_of(Shelf(), "names"), "-")
        for line, answer in (
                ("show one", "a b : a deep b"), ("show w", "a b / c"), ("show far", "a b c d :"), ("possible one", "kept"),
                ("possible heard", "barred"), ("rows one", "1"), ("rows islands", "2"), ("sure one a deep b", "surely"),
                ("sure one a rim b", "never"), ("sure one ! * a b", "never"), ("sure wide a deep b", "open"),
                ("words one a b", "deep"), ("words wide a * a b", "same"), ("words fence * a b a", "nowhere"),
                ("words gone - a b a", "same"), ("left one", "1"), ("left wide", "2"), ("left heard", "0"),
                ("next one", "known"), ("next wide", "a b"), ("next nest", "known"), ("idle nest", "2"), ("idle one", "-"),
                ("idle ten", "0 1 2 3 4 5 6 7 8 9"), ("quarrels one", "-"), ("quarrels heard", "2 3 / 0 1 2 / 0 1 3"),
                ("fits one two", "fits"), ("fits fence hole", "parted 0 touch 0"), ("fits heard one", "parted 0 land a"),
                ("fits one heard", "parted 0 land a"), ("breaks nest w", "0"),
                ("breaks islands gap", "0"), ("look w a b", "meets"), ("look w a c", "apart"),
                ("look w * a b c", "none"), ("alike w w", "alike"), ("alike w gap", "unlike"), ("map w", "a b c : meets apart apart"),
                ("limit gap w", "limit"), ("limit w gap", "nolimitrow"), ("leads day night", "limitmaps"),
                ("leads night day", "notnear"), ("leads four four", "limitmaps"), ("film near away", "5"),
                ("film day night", "2"), ("film day day", "1")):
            self.told(line, answer)
        self.assertEqual(answer_of(Shelf([("b", Book.read("a b : a meets b")), ("w", World.read("a b"))]), "breaks b w"), "-")

    def test_some(self):
        chance = chances(561)
        met = []
        things = dict(MORE.things)
        names = list(things)
        for _ in range(3000):
            line = some_line(chance, names)
            if line.split(" ")[0] not in ASKS:
                continue
            try:
                wanted = by_definition(things, line)[1]
            except WordsError as error:
                met.append(type(error))
                self.refused(error, answer_of, MORE, line)
                continue
            met.append(line.split(" ")[0])
            self.assertEqual(answer_of(MORE, line), wanted, line)
        self.assertGreater(min(met.count(one) for one in ASKS if one not in ("leads", "film")), 0)

    def test_names(self):
        for line, name in (("show x", "x"), ("possible w", "w"), ("rows x", "x"), ("sure w a deep q", "w"),
                           ("words x q q", "x"), ("left v", "v"), ("next x", "x"), ("idle x", "x"), ("quarrels x", "x"),
                           ("fits x y", "x"), ("fits one w", "w"), ("breaks w one", "w"), ("breaks one one", "one"),
                           ("look one a q", "one"), ("alike one x", "one"), ("alike w one", "one"), ("map one", "one"),
                           ("limit w x", "x"), ("leads one w", "w"), ("leads w x", "w"), ("film x one", "x")):
            self.refused(NoName(name), answer_of, MORE, line)

    def test_errors_of_functions(self):
        heard = MORE.book("heard")
        for line, error in (
                ("rows wide", BadBook("book")), ("rows heard", Impossible(possible(heard))), ("sure one a deep q", NoLand("q")),
                ("sure heard a deep q", NoLand("q")), ("sure heard a deep b", Impossible(possible(heard))),
                ("sure ten a deep b", TooMany("sayings", 10)), ("words one a + q p", NoLand("p")),
                ("words ten a b", TooMany("sayings", 10)), ("left far", TooMany("lands", 3)),
                ("next far", TooMany("lands", 3)), ("next heard", Impossible(possible(heard))),
                ("quarrels seven", TooMany("sayings", 6)), ("fits wide one", BadBook("one")), ("fits one wide", BadBook("other")),
                ("breaks one w", Misfit("lands")), ("look w a q", NoLand("q")), ("alike w five", Misfit("lands")),
                ("alike five five2", TooMany("lands", 4)), ("limit w five", Misfit("lands")), ("limit w six", Misfit("rows")),
                ("limit six six", TooMany("cells", 400)), ("leads wide wide", BadBook("book")),
                ("leads one wide", BadBook("book")), ("leads day near", Misfit("lands")),
                ("leads bent day", Impossible(by_threes(Map.of(MORE.book("bent"))))), ("film wide one", BadBook("book")),
                ("film day near", Misfit("lands")), ("film four four", TooMany("lands", 3)),
                ("film day bent", Impossible(by_threes(Map.of(MORE.book("bent")))))):
            self.refused(error, answer_of, MORE, line)
        # The book without its first saying is not possible.
        shelf = Shelf([("b", Book.read("a b : a deep b / a apart b / b deep a"))])
        with self.assertRaises(Impossible) as found:
            answer_of(shelf, "idle b")
        with self.assertRaises(Impossible) as wanted:
            is_idle(shelf.book("b"), 0)
        self.assertEqual(found.exception.paper, wanted.exception.paper)

    def test_errors(self):
        for value in odd_values() + NO_SHELVES:
            self.refused(BadDesk("shelf"), answer_of, value, value)
            self.refused(BadDesk("shelf"), answer_of, value, "names")
        for value in odd_values() + [["names"], "Names", " names"]:
            self.refused(BadText(0, 0), answer_of, SHELF, value)
        for word in DEEDS:
            for rest in ("", " one", " one two", "  ", " n a b c"):
                self.refused(BadText(0, 0), answer_of, SHELF, word + rest)
        self.refused(BadText(0, 2), answer_of, SHELF, "show one x")
        self.refused(BadText(0, 5), answer_of, SHELF, "words x + a b")
