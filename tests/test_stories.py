"""Stories of desks."""

from borderwords.desk import Desk
from borderwords.desk_lines import ASKS, DEEDS
from borderwords.errors import BadDesk, BadLine, BadText, NoName, NoSaying, Twice, WordsError
from borderwords.shelves import Shelf
from borderwords.stories import merged, parting, replay
from tests.desking import by_definition, some_line
from tests.support import Case, chances, odd_values
from tests.test_desk import EVENING, state

NO_DESKS = [Shelf(), Desk, [], (), "names", Desk().story]


def some_desk(chance, start=()):
    """A desk with a story that begins with these lines."""
    desk = replay(start)
    for _ in range(30):
        line = some_line(chance, list(desk.shelf.names) + ["x"])
        if chance.random() < 0.3:
            line = chance.choice(["book", "world"]) + f" n{chance.randint(0, 6)} a b"
        try:
            desk(line)
        except WordsError:
            pass
    return desk


class Stories(Case):
    """replay, parting, merged."""

    def test_replay(self):
        desk = Desk()
        desk.told(*EVENING)
        for lines in (desk.story, list(desk.story)):
            again = replay(lines)
            self.assertEqual(state(again), state(desk))
        self.assertEqual(replay(lines=()), Desk())
        self.assertEqual(replay([]).story, ())
        while desk.story:
            self.assertEqual(again.undo(), desk.undo())
            self.assertEqual(again, desk)

    def test_replay_errors(self):
        for value in odd_values() + [["book n a", None], "book n a", {"book n a": 1}, [["book n a"]], Desk(), (1,),
                                     ["book n a", "drop n", ("drop n",)]]:
            if value != () and value != []:
                self.refused(BadDesk("lines"), replay, value)
        self.refused(BadLine(1, Twice("n")), replay, ["book n a", "book n a", "names"])
        self.refused(BadLine(2, NoSaying(0)), replay, ["book n a", "mend n", "strike n 0"])
        self.refused(BadLine(0, BadText(0, 1)), replay, ["drop"])
        self.refused(BadLine(1, BadText(0, 0)), replay, ["book n a", "Drop n"])
        for word in ASKS:
            for rest in ("", " n", " n n", " x y z"):
                self.refused(BadLine(1, BadText(0, 0)), replay, ["book n a", word + rest])

    def test_parting(self):
        one, other = Desk(), Desk()
        self.assertEqual(parting(one=one, other=other), 0)
        one.told("book a a", "book b b", "drop a")
        self.assertEqual((parting(one, other), parting(other, one), parting(one, one)), (0, 0, 3))
        other.told("book a a", "names", "book b b")
        self.assertEqual((parting(one, other), parting(other, one)), (2, 2))
        other.told("drop b", "drop a")
        self.assertEqual(parting(one, other), 2)
        other = Desk()
        other.told("book b b", "book a a", "drop a")
        self.assertEqual(parting(one, other), 0)

    def merged_right(self, one, other):
        before = state(one), state(other)
        desk, refused = merged(one, other)
        self.assertIs(type(refused), tuple)
        self.assertEqual((state(one), state(other)), before)
        same = 0
        while one.story[:same + 1] == other.story[:same + 1] and same < min(len(one.story), len(other.story)):
            same += 1
        self.assertEqual(parting(one, other), same)
        things, story, left_out = {}, [], []
        for line in one.story:
            things = by_definition(things, line)[0]
            story.append(line)
        for at in range(same, len(other.story)):
            try:
                things = by_definition(things, other.story[at])[0]
                story.append(other.story[at])
            except WordsError:
                left_out.append(at)
        self.assertEqual((desk.shelf, desk.story, refused), (Shelf(list(things.items())), tuple(story), tuple(left_out)))
        self.assertEqual(state(desk), state(replay(story)))
        again, numbers = merged(one=one, other=other)
        self.assertEqual((state(again), numbers), (state(desk), refused))
        return len(refused)

    def test_merged(self):
        chance = chances(581)
        many = []
        for _ in range(25):
            first = some_desk(chance)
            start = first.story[:chance.randint(0, len(first.story))]
            one, other = some_desk(chance, start), some_desk(chance, start)
            if chance.random() < 0.5 and one.story:
                one.undo()
            many += [self.merged_right(one, other), self.merged_right(other, one), self.merged_right(one, one)]
        self.assertGreater(len([one for one in many if one > 0]), 10)

    def test_what_can_be_done_again_is_left_out(self):
        desk = Desk()
        desk.told("book a a", "book b b")
        desk.undo()
        found, refused = merged(desk, Desk())
        self.assertEqual((found.story, refused, state(found)[2]), (("book a a",), (), []))

    def test_errors(self):
        for call in (parting, merged):
            for value in odd_values() + NO_DESKS:
                self.refused(BadDesk("one"), call, value, value)
                self.refused(BadDesk("other"), call, Desk(), value)
        self.assertEqual(len(DEEDS), 10)
        self.refused(BadLine(0, NoName("x")), replay, ["drop x"])
