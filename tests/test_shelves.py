"""What a desk keeps."""

from borderwords.books import Book
from borderwords.errors import BadDesk, NoName, Twice
from borderwords.maps import Map
from borderwords.shelves import Shelf
from borderwords.worlds import World
from tests.support import Case, Odd, odd_values

BOOK, WORLD = Book.read("a b : a deep b"), World.read("a b")


class Shelves(Case):
    """Shelf."""

    def test_made(self):
        pairs = [["x", BOOK], ("a", WORLD), ["m", Book(["c"])]]
        shelf = Shelf(things=pairs)
        self.assertEqual(shelf.things, (("x", BOOK), ("a", WORLD), ("m", Book(["c"]))))
        self.assertTrue(all(type(pair) is tuple for pair in shelf.things))
        self.assertEqual(shelf.names, ("x", "a", "m"))
        pairs[0][1] = WORLD
        pairs.append(("z", BOOK))
        self.assertEqual((shelf.book("x"), len(shelf.things)), (BOOK, 3))
        self.assertEqual((Shelf().things, Shelf().names, Shelf([]), Shelf(())), ((), (), Shelf(), Shelf()))

    def test_kept(self):
        shelf = Shelf([("x", BOOK), ("a", WORLD)])
        self.assertEqual((shelf.book(name="x"), shelf.world(name="a")), (BOOK, WORLD))
        for value in odd_values() + ["b", "a", ("x",), ["x"], Odd()]:
            self.refused(NoName(value), shelf.book, value)
        for value in odd_values() + ["b", "x", ("a",), ["a"], Odd()]:
            self.refused(NoName(value), shelf.world, value)
            self.refused(NoName(value), Shelf().world, value)

    def test_equality(self):
        shelves = [Shelf(), Shelf([("x", BOOK)]), Shelf([("y", BOOK)]), Shelf([("x", WORLD)]),
                   Shelf([("x", BOOK), ("y", BOOK)]), Shelf([("y", BOOK), ("x", BOOK)])]
        for at, one in enumerate(shelves):
            for its, other in enumerate(shelves):
                self.assertEqual(one == other, at == its)
            for value in (None, one.things, one.names):
                self.assertFalse(one == value)
        self.assertEqual(Shelf([("x", Book.read("a b : a deep b"))]), shelves[1])

    def test_errors(self):
        for value in odd_values() + [
                "xa", [BOOK], {"x": BOOK}, [("x", BOOK), None], [("x", BOOK, 1)], [("X", BOOK)], [(1, BOOK)], [("x", "a :")],
                [("x", Map(["a"], []))], [("x", None)], [("twelveletters", BOOK)], ("x", BOOK), [("x", BOOK), ("x",)],
                [("x", BOOK), ("x", 3)], [{"x": BOOK}], [(Odd(), BOOK)], Shelf(), WORLD]:
            if value != () and value != []:
                self.refused(BadDesk("things"), Shelf, value)
        self.refused(Twice("x"), Shelf, [("a", WORLD), ("x", BOOK), ("x", WORLD), ("a", BOOK)])
