"""Papers and denials."""

from borderwords.alikes import Alike, Unlike
from borderwords.papers import Denial, Paper, fixed, is_just, is_own
from borderwords.regions import Land
from tests.support import Case, below, odd_values


class Fixed(Case):
    """Lists become tuples, all the way in."""

    def test_fixed(self):
        self.assertEqual(fixed([]), ())
        self.assertEqual(fixed([1, ["a", ([None],)], ()]), (1, ("a", ((None,),)), ()))
        deep = "x"
        wanted = "x"
        for _ in range(30):
            deep, wanted = [deep], (wanted,)
        self.assertEqual(fixed(deep), wanted)

    def test_other_values_stay(self):
        table = {"a": [1]}
        self.assertIs(fixed(table), table)
        self.assertEqual(table, {"a": [1]})
        self.assertIs(fixed([table])[0], table)
        for value in (None, True, 3, "ab", Land("a")):
            self.assertIs(fixed(value), value)

    def test_what_is_passed_stays(self):
        value = [1, [2]]
        fixed(value)
        self.assertEqual(value, [1, [2]])


class Papers(Case):
    """A word, parts, truth and equality."""

    def test_word_and_parts(self):
        for kind in (Paper, Denial):
            paper = kind("note", [1, [2]], "a", None)
            self.assertEqual((paper.word, paper.parts), ("note", ((1, (2,)), "a", None)))
            self.assertEqual((kind(word="alone").word, kind("alone").parts), ("alone", ()))

    def test_truth(self):
        self.assertIs(bool(Paper("note")), True)
        self.assertIs(bool(Paper("")), True)
        self.assertIs(bool(Denial("note", 1)), False)
        self.assertTrue(Alike())
        self.assertFalse(Unlike(1, 2, 3, 4))
        self.assertTrue(issubclass(Denial, Paper))
        self.assertTrue(issubclass(Alike, Paper) and not issubclass(Alike, Denial))
        self.assertTrue(issubclass(Unlike, Denial))

    def test_equality(self):
        self.assertEqual(Paper("note", [1, ["a"]]), Paper("note", (1, ("a",))))
        self.assertEqual(Paper("note", 1), Paper("note", True), "as Python compares them")
        unlike = [Paper("note", 1), Paper("note", 2), Paper("note"), Paper("word", 1), Paper("note", 1, 1),
                  Denial("note", 1), Denial("note"), Denial("word", 1), Paper("alike"), Alike(),
                  Denial("unlike", 1, 2, 3, 4),
                  Unlike(1, 2, 3, 4), Unlike(1, 2, 3, 5)]
        for at, one in enumerate(unlike):
            for its, other in enumerate(unlike):
                self.assertEqual(one == other, at == its, (at, its))
                self.assertEqual(one != other, at != its, (at, its))

    def test_nothing_else_is_equal(self):
        for paper in (Paper("note", 1), Denial("note", 1), Alike()):
            for value in ("note", 1, None, ("note", 1), [1], (1,), False, True):
                self.assertFalse(paper == value)

    def test_a_class_of_the_same_name_is_another_one(self):
        for kind in (Paper, Denial):
            foreign = type(kind.__name__, (), {"word": "note", "parts": (1,)})
            self.assertFalse(kind("note", 1) == foreign())

    def test_what_is_passed_may_be_changed(self):
        part = [1, [2]]
        paper = Paper("note", part)
        part[1].append(3)
        part.append(4)
        self.assertEqual(paper.parts, ((1, (2,)),))

    def test_parts_by_place_and_by_name(self):
        by_name = Unlike(there=4, here=[3], other="b", one=None)
        self.assertEqual(by_name.parts, (None, "b", (3,), 4))
        self.assertEqual((by_name.one, by_name.other, by_name.here, by_name.there), (None, "b", (3,), 4))
        self.assertEqual((by_name.word, Alike().word, Alike().parts), ("unlike", "alike", ()))
        self.assertEqual(by_name, Unlike(None, "b", (3,), 4))
        for value in odd_values():
            if not isinstance(value, (list, tuple)):
                self.assertIs(Unlike(1, 2, 3, value).there, value)


class Own(Case):
    """A value is of a class of papers only if it was made by calling this class."""

    def test_is_own(self):
        told = [Alike(), Unlike(1, 2, 3, 4)]
        for paper in told:
            name = type(paper).__name__
            self.assertIs(is_own(paper, name), True)
            self.assertIs(is_own(paper, "Paper"), False)
            self.assertIs(is_own(paper, "Denial"), False)
            self.assertIs(is_own(below(paper), name), False)
            self.assertIs(is_own(below(below(paper)), name), False)
            self.assertFalse(paper == below(paper) or below(paper) == paper)
        self.assertIs(is_own(Paper("alike"), "Alike"), False)

    def test_no_papers(self):
        for value in odd_values() + [Alike, type("Alike", (), {"word": "alike", "parts": ()})()]:
            self.assertIs(is_own(value, "Alike"), False)


class Just(Case):
    """In papers True stands for no number, and no number for True."""

    def test_is_just(self):
        wanted = ("a", (1, None), 0)
        for value in (("a", (1, None), 0), ["a", [1, None], 0], ("a", [1, None], 0)):
            self.assertTrue(is_just(value, wanted))
        for value in (("a", (True, None), 0), ("a", (1, None), False), ("a", (1.0, None), 0), ("a", (1, 0), 0),
                      ("a", (1, None)), ("a", (1, None), 0, 0), ("b", (1, None), 0), None, "a", ("a", 1, 0)):
            self.assertFalse(is_just(value, wanted), value)
        for value in odd_values():
            for one in ("a", 1, (), ("a",)):
                self.assertFalse(is_just(value, one), (value, one))
