"""The borders that books let, and what books need."""

from borderwords.books import Book
from borderwords.borders import bars, has_need, let_borders, needs
from borderwords.errors import BadBook, BadSaying, BadWorld, NoLand
from tests.support import (
    EIGHT, Case, all_borders, bars_by_definition, book_text, chances, let_by_definition, names_of, needs_by_definition,
    odd_values, some_plain_text, some_saying_text)

NO_BORDERS = [None, True, 1, "ab", "", [], (), [["a"]], [["a"], ["b"], ["a"]], [["b", "a"], []], [["a", "a"], []],
              ["a", "b"], [["a"], "b"], [["A"], []], [[1], []], {"a": 1}, {("a",): 1, (): 1}, [["a"], None],
              ["a", ["b"]], [[["a"]], []]]


def some_book(chance, lands, most):
    """The texts of up to so many sayings of one word of these lands."""
    return [some_saying_text(chance, lands, 2, 1) for _ in range(chance.randint(0, most))]


def told(border):
    """The border as the program tells it."""
    return tuple(names_of(cell) for cell in border)


class Borders(Case):
    """What is let, and what bars it."""

    def test_by_definition(self):
        chance = chances(21)
        for lands in ("a", "ab", "abc", "abcd", "abcde"):
            for _ in range(25 if len(lands) < 4 else 5):
                texts = some_book(chance, lands, 4)
                book = Book.read(book_text(lands, texts))
                let = let_by_definition(lands, texts)
                self.assertEqual(let_borders(book), tuple(told(border) for border in let))
                for p, q in chance.sample(all_borders(lands), min(30, len(all_borders(lands)))):
                    barring = [number for number, text in enumerate(texts) if bars_by_definition(text, p, q)]
                    wanted = barring[0] if barring else None
                    self.assertEqual(bars(book, [names_of(p), names_of(q)]), wanted, (texts, p, q))
                    self.assertEqual(bars(book, (list(names_of(q)), names_of(p))), wanted, (texts, p, q))

    def test_each_word(self):
        for word in EIGHT:
            for text in (f"a {word} b", f"b {word} a", f"a {word} a", f"- a b {word} b", f"* a b {word} - a b"):
                book = Book.read(book_text("ab", [text]))
                wanted = tuple(told(border) for border in let_by_definition("ab", [text]))
                self.assertEqual(let_borders(book), wanted, text)

    def test_empty_books(self):
        self.assertEqual(let_borders(Book(["a"])), (((), ()), ((), ("a",)), (("a",), ("a",))))
        self.assertEqual([len(let_borders(Book(list("abcde")[:many]))) for many in range(1, 6)], [3, 10, 36, 136, 528])

    def test_a_let_border_lets_its_cells(self):
        chance = chances(22)
        for _ in range(20):
            let = let_borders(Book.read(book_text("abc", some_book(chance, "abc", 3))))
            for p, q in let:
                self.assertTrue((p, p) in let and (q, q) in let)

    def test_barred_by_nowhere(self):
        book = Book.read("a b : a overlaps b / ! - a b")
        borders = ([[], []], [[], ["a"]], [["a"], ["a", "b"]], [["a", "b"], []])
        self.assertEqual([bars(book, border) for border in borders], [None, 1, 1, None])


class Needs(Case):
    """What books need, and which borders have it."""

    def test_by_definition(self):
        chance = chances(23)
        for lands in ("a", "ab", "abc"):
            for _ in range(40):
                texts = some_book(chance, lands, 5)
                book = Book.read(book_text(lands, texts))
                wanted = needs_by_definition(lands, texts)
                self.assertEqual(needs(book), tuple(need for need, has in wanted))
                for p, q in chance.sample(all_borders(lands), 3):
                    for need, has in wanted:
                        border = [list(names_of(p)), names_of(q)]
                        self.assertIs(has_need(book, border, need), bool(has(p, q)), (texts, border, need))
                        self.assertIs(has_need(book, border[::-1], list(need)), bool(has(p, q)))

    def test_each_word(self):
        kinds = {"apart": [], "same": [], "meets": ["touch"], "overlaps": ["both", "alone", "beyond"],
                 "deep": ["beyond"], "holdsdeep": ["alone"], "rim": ["beyond", "edge"], "holdsrim": ["alone", "edge"]}
        for word, behind in kinds.items():
            texts = ["! a", f"+ a b {word} * a b"]
            book = Book.read(book_text("ab", texts))
            own = tuple((kind, 1) for kind in ["one", "other"] + behind)
            self.assertEqual(needs(book), (("land", "a"), ("land", "b")) + own)
            for p, q in all_borders("ab"):
                for need, has in needs_by_definition("ab", texts):
                    self.assertIs(has_need(book, told((p, q)), need), bool(has(p, q)))

    def test_unequal_cells_have_no_need_of_equal_ones(self):
        book = Book.read("a b : a overlaps b")
        for need in needs(book):
            self.assertIs(has_need(book, [["a"], ["a", "b"]], need), False)

    def test_needs_that_no_border_has(self):
        book = Book.read("a b : a deep a / * a b meets - b b")
        self.assertEqual(needs(book)[2:], (("one", 0), ("other", 0), ("beyond", 0), ("one", 1), ("other", 1),
                                           ("touch", 1)))
        for border in all_borders("ab"):
            for need in (("beyond", 0), ("other", 1), ("touch", 1)):
                self.assertIs(has_need(book, told(border), need), False)

    def test_a_border_that_is_not_let(self):
        book = Book.read("a b : a meets b")
        self.assertEqual(bars(book, [["a", "b"], ["a", "b"]]), 0)
        self.assertIs(has_need(book, [["a", "b"], ["a", "b"]], ("touch", 0)), True)


class Errors(Case):
    """What is refused, in order."""

    def test_books(self):
        border, need = [["a"], []], ("land", "a")
        for value in odd_values() + ["a :", Book.read("a b : a deep|rim b"), ["a"]]:
            for call in (let_borders, needs):
                self.refused(BadBook("book"), call, value)
            self.refused(BadBook("book"), bars, value, border)
            self.refused(BadBook("book"), bars, value, None)
            self.refused(BadBook("book"), has_need, value, border, need)
            self.refused(BadBook("book"), has_need, value, None, None)

    def test_borders(self):
        book = Book.read("a b : a deep b")
        for value in odd_values() + NO_BORDERS:
            self.refused(BadWorld("border"), bars, book, value)
            self.refused(BadWorld("border"), has_need, book, value, ("land", "a"))
            self.refused(BadWorld("border"), has_need, book, value, None)
        self.refused(BadWorld("border"), bars, book, [["c"], ["B"]])
        for call in (bars, lambda book, border: has_need(book, border, ("none", 0))):
            self.refused(NoLand("d"), call, book, [["a", "b", "d"], ["c"]])
            self.refused(NoLand("c"), call, book, [[], ["c", "d"]])
            self.refused(NoLand("c"), call, book, (("c", "d"), ()))

    def test_needs(self):
        book = Book.read("a b : a rim b / ! - a b")
        for value in odd_values() + [("land", "c"), ("beyond", 1), ("alone", 0), ("beyond", 2), ("land", 0), ("one",),
                                     ("one", False), ("one", 0.0), ("one", 0, 0), "one", ("One", 0), ("edge", "0"),
                                     (("one", 0),), [["one", 0]], ("one", None), ("one", -1), {"one": 0}]:
            self.refused(BadSaying("need"), has_need, book, [["a"], []], value)
        other = Book.read("a b : ! b / a rim b")
        self.refused(BadSaying("need"), has_need, other, [["a"], []], ("one", True))
        self.assertIs(has_need(book=other, border=[["a"], ["a"]], need=["one", 1]), True)

    def test_sayings_told_twice(self):
        book = Book.read("a b : a deep b / a deep b / a same a")
        self.assertEqual(needs(book)[2:], (("one", 0), ("other", 0), ("beyond", 0), ("one", 1), ("other", 1),
                                           ("beyond", 1), ("one", 2), ("other", 2)))
        self.assertEqual(bars(Book.read("a b : a deep b / a deep b"), [["a"], []]), 0)
        self.assertEqual(let_borders(book), let_borders(Book.read("a b : a deep b")))
        chance = chances(24)
        texts = [some_plain_text(chance, "ab") for _ in range(3)]
        self.assertEqual(let_borders(Book.read(book_text("ab", texts + texts))),
                         let_borders(Book.read(book_text("ab", texts))))
