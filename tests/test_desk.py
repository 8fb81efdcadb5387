"""Desks: told lines, they keep and answer, and can take back."""

from borderwords.desk import Desk
from borderwords.desk_asks import answer_of
from borderwords.desk_lines import DEEDS
from borderwords.errors import BadLine, BadText, NoLand, NoName, NoSaying, Nothing, Twice, WordsError
from borderwords.shelves import Shelf
from tests.desking import by_definition, some_line
from tests.support import Case, Odd, chances, odd_values

EVENING = ("book shore lake park town", "tell shore lake meets park", "tell shore park rim town", "words shore lake town",
           "left shore", "next shore", "world one - lake+town park+town -", "breaks shore one", "map one",
           "tell shore lake apart town", "possible shore", "quarrels shore", "mend shore", "show shore",
           "book hut hut park", "tell hut hut deep park", "fits shore hut", "join all shore hut", "rows all",
           "sure all hut apart lake", "world two lake park+town town", "alike one two", "beside both one two",
           "look both lake town", "drop two", "names")


def state(desk):
    """All that can be seen of a desk: its shelf, its story, and what can be done again."""
    twin = desk.twin()
    later = []
    while True:
        try:
            later.append(twin.redo())
        except Nothing:
            break
    past = []
    twin = desk.twin()
    while twin.story:
        past.append((twin.undo(), twin.shelf.things))
    return desk.shelf.things, desk.story, later, past


class Desks(Case):
    """Desk."""

    def test_new(self):
        desk = Desk()
        self.assertEqual((desk.shelf, desk.story, len(desk), desk.told(), desk.tried()), (Shelf(), (), 0, (), ()))
        self.refused(Nothing(), desk.undo)
        self.refused(Nothing(), desk.redo)
        self.assertEqual(desk, Desk())
        self.assertEqual(desk("names"), "-")

    def test_an_evening(self):
        """Each answer is what the functions of the other files give."""
        desk, things, answers, shelves, story = Desk(), {}, [], [{}], []
        for line in EVENING:
            things, answer = by_definition(things, line)
            answers.append(answer)
            self.assertEqual(desk(line), answer, line)
            self.assertEqual(desk.shelf, Shelf(list(things.items())))
            if line.split(" ")[0] in DEEDS:
                shelves.append(things)
                story.append(line)
            self.assertEqual((desk.story, len(desk)), (tuple(story), len(things)))
        self.assertEqual(Desk().told(*EVENING), tuple(answers))
        for at in range(len(story) - 1, -1, -1):
            self.assertEqual(desk.undo(), story[at])
            self.assertEqual((desk.shelf, desk.story), (Shelf(list(shelves[at].items())), tuple(story[:at])))
        self.refused(Nothing(), desk.undo)
        for at, line in enumerate(story):
            self.assertEqual(desk.redo(), line)
            self.assertEqual((desk.shelf, desk.story), (Shelf(list(shelves[at + 1].items())), tuple(story[:at + 1])))
        self.refused(Nothing(), desk.redo)

    def test_some(self):
        """A desk beside a plain list of shelves, told lines of all kinds, taken back and done again."""
        chance = chances(571)
        met = []
        for _ in range(40):
            desk, past, later = Desk(), [{}], []
            story = []
            for _ in range(60):
                names = list(past[-1]) + ["x"]
                turn = chance.random()
                if turn < 0.12:
                    if story:
                        later.append((story.pop(), past.pop()))
                        self.assertEqual(desk.undo(), later[-1][0])
                    else:
                        self.refused(Nothing(), desk.undo)
                elif turn < 0.2:
                    if later:
                        line, things = later.pop()
                        story.append(line)
                        past.append(things)
                        self.assertEqual(desk.redo(), line)
                    else:
                        self.refused(Nothing(), desk.redo)
                else:
                    line = some_line(chance, names)
                    if turn < 0.4:
                        line = chance.choice(["book", "world"]) + f" n{chance.randint(0, 9)} a b c"
                    try:
                        things, answer = by_definition(past[-1], line)
                    except WordsError as error:
                        met.append(False)
                        self.refused(error, desk, line)
                    else:
                        met.append(True)
                        self.assertEqual(desk.tried(line, "names")[0], answer)
                        self.assertEqual(desk(line), answer)
                        if line.split(" ")[0] in DEEDS:
                            past.append(things)
                            story.append(line)
                            later = []
                self.assertEqual((desk.shelf, desk.story), (Shelf(list(past[-1].items())), tuple(story)))
            self.assertEqual(state(desk)[2], [line for line, things in later[::-1]])
        self.assertGreater(min(met.count(True), met.count(False)), 100)

    def test_refused_whole(self):
        desk = Desk()
        desk.told("book one a b", "tell one a deep b", "book two b")
        desk.undo()
        before = state(desk)
        self.assertEqual(before[2], ["book two b"])
        for lines, error in (
                (("tell one b deep a", "strike one 2", "names"), BadLine(1, NoSaying(2))),
                (("book one a",), BadLine(0, Twice("one"))), (("names", "show one", "drop two"), BadLine(2, NoName("two"))),
                (("drop one", "show one"), BadLine(1, NoName("one"))), (("book n a", None, "names"), BadLine(1, BadText(0, 0))),
                (("book n a", "world w a", "tell n a deep q"), BadLine(2, NoLand("q"))), (("",), BadLine(0, BadText(0, 0)))):
            self.refused(error, desk.told, *lines)
            self.assertEqual(state(desk), before)
            self.refused(error, desk.tried, *lines)
            self.assertEqual(state(desk), before)
        for value in odd_values():
            self.refused(BadLine(1, BadText(0, 0)), desk.told, "names", value)
            self.refused(BadText(0, 0), desk, value)
            self.assertEqual(state(desk), before)
        self.refused(NoSaying(7), desk, "strike one 7")
        self.refused(BadText(0, 2), desk, "drop one one")
        self.assertEqual(state(desk), before)
        self.assertEqual(desk.redo(), "book two b")

    def test_redo_goes_on_behind_asks_tries_and_refused_lines(self):
        desk = Desk()
        desk.told("book one a b", "book two b", "drop one")
        desk.undo()
        desk.undo()
        desk("names")
        desk.told("names", "show one")
        desk.told()
        desk.tried("book three a", "drop one")
        self.refused(NoName("x"), desk, "drop x")
        self.refused(BadLine(1, NoName("x")), desk.told, "book three a", "drop x")
        self.assertEqual([desk.redo(), desk.redo()], ["book two b", "drop one"])
        self.refused(Nothing(), desk.redo)
        desk.undo()
        self.assertEqual(desk("drop two"), "1")
        self.refused(Nothing(), desk.redo)
        self.assertEqual(desk.undo(), "drop two")
        self.assertEqual(desk.redo(), "drop two")
        self.assertEqual(desk.story, ("book one a b", "book two b", "drop two"))

    def test_deeds_that_change_nothing(self):
        desk = Desk()
        desk.told("book one a b", "mend one", "least one")
        self.assertEqual(desk.story, ("book one a b", "mend one", "least one"))
        self.assertEqual([desk.undo(), desk.undo(), desk.undo()], ["least one", "mend one", "book one a b"])
        self.assertEqual(len(desk), 0)

    def test_tried(self):
        desk = Desk()
        desk.told("book one a b", "book two b")
        desk.undo()
        before = state(desk)
        self.assertEqual(desk.tried("tell one a deep b", "words one a b", "drop one", "names"), ("0", "deep", "0", "-"))
        self.assertEqual(state(desk), before)

    def test_twin(self):
        desk = Desk()
        desk.told("book one a b", "book two b", "drop one")
        desk.undo()
        twin = desk.twin()
        self.assertEqual(state(twin), state(desk))
        self.assertEqual(twin, desk)
        before = state(desk)
        twin.told("tell one a deep b", "book three a")
        self.assertEqual(state(desk), before)
        self.assertNotEqual(twin, desk)
        other = desk.twin()
        desk.redo()
        self.assertEqual(state(other), before)
        self.assertEqual(other.redo(), "drop one")
        self.assertEqual(other, desk)

    def test_contains_and_equality(self):
        desk = Desk()
        desk.told("book one a b", "world w a")
        self.assertTrue("one" in desk and "w" in desk)
        for value in odd_values() + ["two", "On", Odd(), ("one",), desk]:
            self.assertFalse(value in desk)
            self.assertFalse(value == desk if not isinstance(value, (Odd, Desk)) else False)
        other = Desk()
        other.told("book one a b c", "drop one", "book one a b")
        self.assertNotEqual(desk, other)
        other("world w a")
        self.assertEqual(desk, other)
        self.assertNotEqual(desk.story, other.story)
        self.assertFalse(desk == desk.shelf)

    def test_up_to_date(self):
        desk = Desk()
        shelf, story = desk.shelf, desk.story
        desk("book one a")
        self.assertEqual((shelf, story), (Shelf(), ()))
        self.assertEqual((desk.shelf.names, desk.story), (("one",), ("book one a",)))
        self.assertEqual(answer_of(desk.shelf, "names"), "one")
        self.assertIs(type(desk.told("names")), tuple)
        self.assertEqual(desk(line="names"), "one")
