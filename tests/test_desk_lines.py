"""The lines that a desk is told."""

from borderwords.books import Book
from borderwords.desk_lines import ASKS, DEEDS, read_line
from borderwords.errors import BadText
from borderwords.regions import Common, Land, Region
from borderwords.sayings import Saying
from borderwords.worlds import World
from tests.support import Case, chances, item_by_trying, items_changed, odd_values, some_region_text, some_saying_text

# A line of each kind, and the values that it stands for.
LINES = [
    ("book n b", ("n", "b")), ("book n a b c", ("n", "a", "b", "c")), ("book n a b c d e f g", ("n", *"abcdefg")),
    ("join n x y", ("n", "x", "y")), ("join x x x", ("x", "x", "x")),
    ("tell x a deep b", ("x", Saying.read("a deep b"))), ("tell x ! * a b", ("x", Saying.read("! * a b"))),
    ("tell x + a b meets|deep - c + a d", ("x", Saying.read("+ a b meets|deep - c + a d"))),
    ("strike x 0", ("x", 0)), ("strike x 3 0 3 12", ("x", 3, 0, 3, 12)), ("strike x " + "9" * 60, ("x", int("9" * 60))),
    ("mend x", ("x",)), ("least x", ("x",)), ("drop x", ("x",)),
    ("world n a", ("n", World.read("a"))), ("world n a+b - / - c", ("n", World.read("a+b - / - c"))),
    ("beside n x y", ("n", "x", "y")), ("vanish x 0 1 2", ("x", 0, 1, 2)), ("vanish x 10 7 7", ("x", 10, 7, 7)),
    ("names", ()), ("show x", ("x",)), ("possible x", ("x",)), ("rows x", ("x",)),
    ("sure x a apart|meets b", ("x", Saying.read("a apart|meets b"))), ("sure x ! a", ("x", Saying.read("! a"))),
    ("words x a b", ("x", Land("a"), Land("b"))),
    ("words x * a b - + a b c", ("x", Common(Land("a"), Land("b")), Region.read("- + a b c"))),
    ("left x", ("x",)), ("next x", ("x",)), ("idle x", ("x",)), ("quarrels x", ("x",)), ("fits x y", ("x", "y")),
    ("breaks x y", ("x", "y")), ("look x a * b a", ("x", Land("a"), Region.read("* b a"))),
    ("alike x y", ("x", "y")), ("map x", ("x",)), ("limit x y", ("x", "y")), ("leads x y", ("x", "y")),
    ("film x y", ("x", "y")),
]


class Lines(Case):
    """read_line, DEEDS, ASKS."""

    def test_words(self):
        self.assertEqual(DEEDS, tuple("book join tell strike mend least world beside vanish drop".split()))
        self.assertEqual(ASKS, tuple("names show possible rows sure words left next idle quarrels fits breaks look alike "
                                     "map limit leads film".split()))
        self.assertEqual({line.split(" ")[0] for line, values in LINES}, set(DEEDS + ASKS))

    def test_each(self):
        for line, values in LINES:
            found = read_line(line=line)
            self.assertEqual(found, (line.split(" ")[0],) + values)
            self.assertIs(type(found), tuple)
            self.assertEqual([type(one) for one in found[1:]], [type(one) for one in values])

    def test_some_texts(self):
        chance = chances(541)
        for _ in range(60):
            saying, one, other = some_saying_text(chance, "abcdef"), *(some_region_text(chance, "abf") for _ in range(2))
            self.assertEqual(read_line("tell x " + saying)[2], Saying.read(saying))
            self.assertEqual(read_line("sure x " + saying)[2], Saying.read(saying))
            for word in ("words", "look"):
                self.assertEqual(read_line(f"{word} x {one} {other}")[2:], (Region.read(one), Region.read(other)))

    def test_items_that_cannot_stand(self):
        """The item told is the first one behind which no line goes on that is read: what may follow is tried."""
        others = ["", "a", "x", "+", "-", "*", "!", "/", "deep", "deep|rim", "rim|deep", "0", "01", "-1", "-0", "a+b", "A",
                  "book", "names", "twelveletters", "9" * 61, "|"]
        tails = ["a", "b", "zz", "deep", "1"]
        for line, values in LINES:
            if len(line.split(" ")) < 6 and "9" not in line:
                for text in items_changed(line, others):
                    item = item_by_trying(read_line, text, tails, 4)
                    items = text.split(" ")
                    if items[0] == "world" and item == len(items) > 2 and items[-1] != "/":
                        # No land: only the whole shows it, and it is the last item that cannot stand.
                        item -= 1
                    if item is None:
                        read_line(text)
                    else:
                        self.refused(BadText(0, item), read_line, text)

    def test_numbers(self):
        for item in ("-1", "+1", "01", "00", "-0", "1.0", "1_0", "", "a", "9" * 61, "1e3", "0x1"):
            self.refused(BadText(0, 2), read_line, "strike x " + item)
            self.refused(BadText(0, 3), read_line, f"strike x 1 {item} a")
            self.refused(BadText(0, 4), read_line, f"vanish x 0 1 {item}")
        self.refused(BadText(0, 2), read_line, "strike x")
        self.refused(BadText(0, 5), read_line, "vanish x 0 1 2 3")

    def test_lands_ascend(self):
        for line, item in (("book n b a", 3), ("book n a a", 3), ("book n a c b d", 4), ("book n a b c b", 5), ("book n", 2),
                           ("book n A", 2), ("book n a b+c", 3), ("book n a ", 3)):
            self.refused(BadText(0, item), read_line, line)
        self.assertEqual(read_line("book n a a1 b"), ("book", "n", "a", "a1", "b"))

    def test_whole_worlds(self):
        """Only the whole shows that there is no land: so the last item cannot stand."""
        self.refused(BadText(0, 2), read_line, "world n -")
        self.refused(BadText(0, 5), read_line, "world n - - / -")
        self.refused(BadText(0, 4), read_line, "world n a /")
        self.refused(BadText(0, 2), read_line, "world n")
        self.refused(BadText(0, 2), read_line, "world n b+a")
        self.refused(BadText(0, 12), read_line, "world n a b c d e f g h i j k")
        many = " ".join(["a"] * 3000)
        self.assertEqual(len(read_line("world n " + many)[2]), 3000)
        self.refused(BadText(0, 3002), read_line, f"world n {many} a")
        self.refused(BadText(0, 3002), read_line, f"world n {many} / a")

    def test_what_is_no_line(self):
        for value in odd_values() + [Book(["a"]), ["names"], ("names",), "Names", " names", "\nnames", "name"]:
            if value != "":
                self.refused(BadText(0, 0), read_line, value)
        self.refused(BadText(0, 0), read_line, "")
        self.refused(BadText(0, 1), read_line, "names ")
        self.refused(BadText(0, 1), read_line, "names a")
        self.refused(BadText(0, 1), read_line, "mend")
        self.refused(BadText(0, 1), read_line, "show  x")
        self.refused(BadText(0, 2), read_line, "show x\n".replace("\n", " \n"))
        self.refused(BadText(0, 1), read_line, "show x\n")
