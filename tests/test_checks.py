"""What is true of plain values."""

from borderwords import checks
from borderwords.errors import BadWord
from tests.support import EIGHT, Case, odd_values


class Words(Case):
    """The eight words, and their turning."""

    def test_words(self):
        self.assertEqual(checks.WORDS, EIGHT)
        self.assertIs(type(checks.WORDS), tuple)

    def test_turned_word(self):
        turned = [checks.turned_word(word) for word in EIGHT]
        self.assertEqual(turned, ["apart", "meets", "overlaps", "same", "holdsdeep", "holdsrim", "deep", "rim"])
        self.assertEqual([checks.turned_word(word) for word in turned], list(EIGHT))

    def test_turned_word_of_no_word(self):
        for value in odd_values() + ["nowhere", "Deep", ["deep"], ("deep",), 4, " deep"]:
            self.refused(BadWord("word"), checks.turned_word, value)


class Integers(Case):
    """Integers, and their bounds."""

    def test_is_integer(self):
        for value in (0, 1, -1, 10 ** 900):
            self.assertIs(checks.is_integer(value), True)
        for value in (True, False, None, 1.0, "1", [1], int):
            self.assertIs(checks.is_integer(value), False)

    def test_is_within(self):
        self.assertEqual([value for value in range(-3, 9) if checks.is_within(value, -1, 4)], [-1, 0, 1, 2, 3, 4])
        self.assertEqual([value for value in range(-3, 3) if checks.is_within(value, 1, None)], [1, 2])
        self.assertEqual([value for value in range(-3, 3) if checks.is_within(value, None, -2)], [-3, -2])
        self.assertEqual([checks.is_within(value, None, None) for value in (10 ** 99, -10 ** 99)], [True, True])
        for value in (True, False, None, 1.0, "1", [1]):
            for bounds in ((0, 5), (None, None), (None, 5), (0, None)):
                self.assertIs(checks.is_within(value, *bounds), False)


class Names(Case):
    """Names and cells."""

    def test_is_name(self):
        for value in ("a", "z", "a1", "z9z9", "abcdefghijkl", "a00000000000"):
            self.assertIs(checks.is_name(value), True)
        bad = ["1", "1a", "A", "aB", "a_b", "a b", "a-", "abcdefghijklm", "\u00e9", "a\u0661", "a\n", " a", "a "]
        for value in odd_values() + bad + [["a"], ("a",)]:
            self.assertIs(checks.is_name(value), False, value)

    def test_is_cell(self):
        for value in ((), [], ["a"], ("a", "b"), ["a", "a1", "aa", "b"]):
            self.assertIs(checks.is_cell(value), True)
        for value in (["b", "a"], ["a", "a"], ["a", "b", "b"], "a", "", "ab", ["a", 1], [["a"]], {"a": 1}, {"a"}, None,
                      True, 1, ["a", "B"], ["a", None], object()):
            self.assertIs(checks.is_cell(value), False, value)

    def test_cells_are_ordered(self):
        cells = [("b",), ("a", "b"), (), ("a",), ("a", "c"), ("a", "b", "c"), ("b", "c")]
        ordered = [(), ("a",), ("b",), ("a", "b"), ("a", "c"), ("b", "c"), ("a", "b", "c")]
        self.assertEqual(sorted(cells, key=checks.cell_key), ordered)
        self.assertEqual([checks.cell_key(["a", "b"]), checks.cell_key(())], [(2, ("a", "b")), (0, ())])

    def test_cell_text(self):
        self.assertEqual([checks.cell_text(cell) for cell in ((), ["a"], ("a", "b1", "c"))], ["-", "a", "a+b1+c"])


class FirstTwice(Case):
    """The first value that equals one ahead of it."""

    def test_first_twice(self):
        self.assertIsNone(checks.first_twice([]))
        self.assertIsNone(checks.first_twice(["a", "b", ("a", "b"), 1, (1,)]))
        self.assertEqual(checks.first_twice(["a", "b", "c", "b", "a"]), "b")
        self.assertEqual(checks.first_twice((3, 1, 2, 1, 3)), 1)
        self.assertEqual(checks.first_twice([("a", 1), ("a", 2), ("a", 2), ("a", 1)]), ("a", 2))
        self.assertEqual(checks.first_twice([0, "0", (0,), 0]), 0)
        self.assertEqual(checks.first_twice([[""], "", ""]), "")

    def test_lists_stand_for_tuples(self):
        self.assertEqual(checks.first_twice([["a", 1], ("b",), ("a", 1)]), ("a", 1))
        self.assertEqual(checks.first_twice([("a", 1), ["a", 1]]), ("a", 1))
