"""The maps that a book of few lands leaves."""

import itertools

from borderwords.books import Book
from borderwords.errors import BadBook, TooMany
from borderwords.listed import maps_left
from borderwords.maps import Map, map_of
from borderwords.possible import possible
from borderwords.tables import by_threes
from borderwords.worlds import World
from tests.support import (
    EIGHT, Case, book_text, chances, lacks_by_definition, odd_values, single_texts, some_rows, some_saying_text,
    world_keeps)


class MapsLeft(Case):
    """All maps of worlds that keep the book."""

    def test_by_definition(self):
        chance = chances(81)
        met = set()
        for lands in ("a", "ab"):
            for _ in range(40):
                texts = [some_saying_text(chance, lands, 2, 3) for _ in range(chance.randint(0, 2))]
                found = []
                for words in itertools.product(EIGHT, repeat=len(lands) - 1):
                    more = [f"a {word} b" for word in words]
                    if any(not lacks_by_definition(lands, row + more) for row in single_texts(texts)):
                        found.append(Map(list(lands), words))
                self.assertEqual(maps_left(Book.read(book_text(lands, texts))), tuple(found), texts)
                met.add(len(found))
        self.assertGreater(len(met), 5)

    def test_three_lands(self):
        chance = chances(82)
        for _ in range(12):
            texts = [some_saying_text(chance, "abc", 2, 3) for _ in range(chance.randint(1, 3))]
            book = Book.read(book_text("abc", texts))
            left = maps_left(book)
            for words in chance.sample(list(itertools.product(EIGHT, repeat=3)), 12) + [one.words for one in left[:5]]:
                more = [f"{one} {word} {other}" for (one, other), word in zip(itertools.combinations("abc", 2), words)]
                wanted = any(not lacks_by_definition("abc", row + more) for row in single_texts(texts))
                self.assertIs(Map(["a", "b", "c"], words) in left, wanted, (texts, words))
            self.assertEqual(bool(left), bool(possible(book)))

    def test_maps_of_worlds_that_keep_the_book(self):
        chance = chances(83)
        many = 0
        for _ in range(300):
            world = World(some_rows(chance, "abc"))
            texts = [some_saying_text(chance, world.lands, 1, 5)]
            if world_keeps(world, world.lands, texts):
                self.assertIn(map_of(world), maps_left(Book.read(book_text(world.lands, texts))))
                many = many + 1
        self.assertGreater(many, 60)

    def test_order_and_numbers(self):
        self.assertEqual([str(one) for one in maps_left(Book(["a"]))], ["a :"])
        self.assertEqual(maps_left(Book.read("a : ! a")), ())
        self.assertEqual([one.words for one in maps_left(book=Book(["b", "a"]))], [(word,) for word in EIGHT])
        every = [words for words in itertools.product(EIGHT, repeat=3) if by_threes(Map(["a", "b", "c"], words))]
        self.assertEqual([one.words for one in maps_left(Book(["a", "b", "c"]))], every)
        self.assertEqual(len(every), 193)
        turned = maps_left(Book.read("a b : b rim|holdsdeep a"))
        self.assertEqual([one.words for one in turned], [("deep",), ("holdsrim",)])

    def test_choices(self):
        text = "a b c : a apart|meets b / b apart|meets c / a apart|meets c"
        left = maps_left(Book.read(text))
        self.assertEqual([one.words for one in left], list(itertools.product(("apart", "meets"), repeat=3)))
        sixty_four = Book.read(text + " / a apart|meets b / b apart|meets c / a apart|meets c")
        self.assertEqual(maps_left(sixty_four), left)

    def test_refused(self):
        for value in odd_values() + ["a :", ["a"], Map(["a"], [])]:
            self.refused(BadBook("book"), maps_left, value)
        self.refused(TooMany("lands", 3), maps_left, Book(["a", "b", "c", "d"]))
        self.refused(TooMany("lands", 3), maps_left, Book.read("a b c d : ! a"))
