"""What the deed lines of a desk do."""

from borderwords.books import Book
from borderwords.desk_deeds import changed
from borderwords.desk_lines import ASKS, DEEDS
from borderwords.errors import (
    BadBook, BadDesk, BadLimit, BadNumber, BadText, Impossible, NoLand, NoName, NoSaying, TooMany, Twice, WordsError)
from borderwords.least import MustBeSame
from borderwords.possible import possible
from borderwords.shelves import Shelf
from borderwords.worlds import World
from tests.desking import by_definition, some_line
from tests.support import Case, chances, odd_values

THINGS = [("one", Book.read("a b : a deep b")), ("two", Book.read("b c : b meets c")), ("w", World.read("a b / c")),
          ("heard", Book.read("a b c : a deep b / b deep c / c deep a / a apart c")),
          ("nest", Book.read("a b c : a deep b / b deep c / a deep c")), ("v", World.read("a - b b"))]
SHELF = Shelf(THINGS)
NO_SHELVES = [dict(THINGS), THINGS, tuple(THINGS), Shelf, "one"]


class Changed(Case):
    """changed."""

    def told(self, line, answer, **things):
        """The line gives this answer, and puts these things in."""
        wanted = dict(THINGS)
        wanted.update({name: (World if name in ("w", "v", "wn") else Book).read(text) for name, text in things.items()})
        shelf, found = changed(SHELF, line)
        self.assertEqual((shelf, found), (Shelf(list(wanted.items())), answer))
        self.assertEqual(changed(shelf=SHELF, line=line), (shelf, found))
        self.assertEqual(SHELF, Shelf(THINGS))
        return shelf

    def test_each(self):
        self.told("book n a b c", "3", n="a b c :")
        self.told("book n a", "1", n="a :")
        self.told("join n one two", "2", n="a b c : a deep b / b meets c")
        self.told("join n two two", "2", n="b c : b meets c / b meets c")
        self.told("tell one b rim a", "1", one="a b : a deep b / b rim a")
        self.told("tell one ! * a b", "1", one="a b : a deep b / ! * a b")
        self.told("strike heard 2", "3", heard="a b c : a deep b / b deep c / a apart c")
        self.told("strike heard 3 0", "2", heard="a b c : b deep c / c deep a")
        self.told("mend heard", "0 2", heard="a b c : b deep c / a apart c")
        self.told("mend one", "-")
        self.told("least nest", "2", nest="a b c : a deep b / b deep c")
        self.told("least one", "1")
        self.told("world wn a / b -", "3", wn="a / b -")
        self.told("beside wn w v", "7", wn="a b / c / a - b b")
        self.told("beside wn v v", "8", wn="a - b b / a - b b")
        self.told("vanish v 0 1 2", "3", v="a b b")
        self.told("vanish v 0 1 3", "2", v="a b")

    def test_drop(self):
        for name in ("one", "w", "v"):
            self.assertEqual(changed(SHELF, "drop " + name), (Shelf([pair for pair in THINGS if pair[0] != name]), "5"))
        self.assertEqual(changed(Shelf(THINGS[:1]), "drop one"), (Shelf(), "0"))

    def test_places(self):
        """What a line changes keeps its place; what is new stands behind all others."""
        shelf, _ = changed(SHELF, "tell one a rim b")
        self.assertEqual(shelf.names, SHELF.names)
        shelf, _ = changed(changed(SHELF, "drop one")[0], "book one a")
        self.assertEqual(shelf.names, ("two", "w", "heard", "nest", "v", "one"))

    def test_some(self):
        chance = chances(551)
        met = []
        names = ["one", "two", "w", "heard", "nest", "v"]
        for _ in range(4000):
            line = some_line(chance, names)
            if line.split(" ")[0] not in DEEDS:
                continue
            try:
                things, answer = by_definition(dict(THINGS), line)
            except WordsError as error:
                met.append(type(error))
                if type(error) is Impossible:
                    self.refused(Impossible(error.paper), changed, SHELF, line)
                else:
                    self.refused(error, changed, SHELF, line)
                continue
            met.append(line.split(" ")[0])
            self.assertEqual(changed(SHELF, line), (Shelf(list(things.items())), answer), line)
        self.assertGreater(min(met.count(one) for one in DEEDS), 0)
        self.assertGreater(min(met.count(one) for one in (NoName, Twice, NoLand, BadLimit)), 5)

    def test_names(self):
        for line, name in (("join n x one", "x"), ("join n one x", "x"), ("join n x y", "x"), ("join n w one", "w"),
                           ("join one x two", "x"), ("tell w a deep b", "w"), ("tell n q deep q", "n"), ("strike w 9", "w"),
                           ("mend v", "v"), ("least x", "x"), ("beside n one w", "one"), ("beside w w one", "one"),
                           ("beside n x y", "x"), ("vanish one 0 1 2", "one"), ("drop x", "x"), ("drop n", "n")):
            self.refused(NoName(name), changed, SHELF, line)
        for line, name in (("book one a", "one"), ("book w a", "w"), ("join one one two", "one"), ("join w two one", "w"),
                           ("world v a", "v"), ("world two a", "two"), ("beside v w w", "v"), ("beside one w v", "one"),
                           ("book one a b c d e f", "one")):
            self.refused(Twice(name), changed, SHELF, line)

    def test_errors_of_functions(self):
        ten = Book(["a", "b"], [THINGS[0][1].sayings[0]] * 10)
        wide = Book.read("a b : a apart|meets|overlaps|same|deep|rim|holdsdeep b / a apart|meets|overlaps|same|deep|rim b")
        many = World([[["a"]] * 2000])
        shelf = Shelf(THINGS + [("ten", ten), ("wide", wide), ("far", Book(list("defg"))), ("many", many),
                                ("twice", Book.read("a b : a deep b / b meets a")),
                                ("never", Book.read("a b c : a deep b / b deep c / a apart c")),
                                ("same", Book.read("a b : a same b")), ("gone", Book.read("a b : ! * a b")),
                                ("seven", Book(["a"], [Book.read("a : a same a").sayings[0]] * 7))])
        for line, error in (
                ("book n a b c d e f", TooMany("lands", 5)), ("book n a b c d e f g h i j k l", TooMany("lands", 5)),
                ("join n far two", TooMany("lands", 5)), ("join n far heard", TooMany("lands", 5)),
                ("join n ten ten", TooMany("sayings", 10)), ("join n wide wide", TooMany("choices", 64)),
                ("join n ten far", TooMany("lands", 5)), ("tell one a deep c", NoLand("c")),
                ("tell one + d c deep e", NoLand("c")), ("tell ten a deep b", TooMany("sayings", 10)),
                ("tell ten a deep c", NoLand("c")), ("tell wide a deep|rim b", TooMany("choices", 64)),
                ("strike one 1", NoSaying(1)), ("strike heard 0 4 0", NoSaying(4)), ("strike heard 0 1 0", Twice(0)),
                ("mend seven", TooMany("sayings", 6)), ("least wide", BadBook("book")), ("least gone", BadBook("book")),
                ("least twice", Twice(("a", "b"))), ("least same", Impossible(MustBeSame("a", "b"))),
                ("least never", Impossible(possible(shelf.book("never")))), ("beside n many many", TooMany("cells", 3000)),
                ("vanish w 2 0 1", BadNumber("row")), ("vanish w 0 3 1", BadNumber("start")),
                ("vanish w 0 1 3", BadNumber("end")), ("vanish w 0 1 2", BadLimit("cells")),
                ("vanish v 0 1 1", BadLimit("cells"))):
            self.refused(error, changed, shelf, line)

    def test_errors(self):
        for value in odd_values() + NO_SHELVES:
            self.refused(BadDesk("shelf"), changed, value, value)
            self.refused(BadDesk("shelf"), changed, value, "drop x")
        for value in odd_values() + [["drop one"], "Drop one", "drop one".split()]:
            self.refused(BadText(0, 0), changed, SHELF, value)
        for word in ASKS:
            for rest in ("", " one", " one two", "  ", " one a b c d"):
                self.refused(BadText(0, 0), changed, SHELF, word + rest)
        self.refused(BadText(0, 2), changed, SHELF, "drop x y")
        self.refused(BadText(0, 3), changed, SHELF, "book one b a")
        self.refused(BadText(0, 4), changed, SHELF, "join x y z z")
