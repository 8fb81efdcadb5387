"""What the tests share: examples, errors, odd values, and the definitions, looked at one by one."""

import importlib
import itertools
import pathlib
import random
import unittest

EXAMPLES = pathlib.Path(__file__).resolve().parent / "examples"
SECTIONS = ("errors checks papers regions worlds looks alikes check_alikes sayings").split()
EIGHT = ("apart", "meets", "overlaps", "same", "deep", "rim", "holdsdeep", "holdsrim")
LANDS = ("a", "b", "c", "d", "e")


class Odd:
    """A value that equals every other one, and can be none of the package."""

    def __eq__(self, other):
        return True


def odd_values():
    """Values that are no name, integer, word, list, or value of a class of the package."""
    return [None, True, False, 1.5, float("nan"), b"a", "", "A", "1a", "a b", "a-b", "twelveletters", {}, {"a": 1},
            {"a"}, object(), Odd(), int, len, [None], ([],)]


class Case(unittest.TestCase):
    """A test case that can look at errors."""

    def refused(self, wanted, call, *values, **named):
        """The call raises just this error: of its class, with its fields."""
        try:
            found = call(*values, **named)
        except type(wanted) as error:
            self.assertIs(type(error), type(wanted))
            self.assertEqual(set(vars(error)), set(vars(wanted)))
            for name, field in vars(wanted).items():
                own = vars(error)[name]
                self.assertTrue(own is field or (type(own) is type(field) and own == field), (name, own, field))
            return
        self.fail(f"{found!r} instead of {type(wanted).__name__} {vars(wanted)}")

    def read_only(self, reader, text):
        """The text is read as a value of which it is the text."""
        self.assertEqual(str(reader(text)), text)


def namespace():
    """All that the sections told so far define."""
    names = {}
    for section in SECTIONS:
        module = importlib.import_module("borderwords." + section)
        names.update({name: value for name, value in vars(module).items() if not name.startswith("__")})
    return names


def examples():
    """The examples of all sections, in order: pairs of an input and of what it gives, perhaps nothing."""
    found = []
    for section in SECTIONS:
        path = EXAMPLES / (section + ".txt")
        for line in path.read_text().splitlines() if path.exists() else []:
            if line.startswith(">>> "):
                found.append([section, line[4:], None])
            else:
                found[-1][2] = line
    return found


# The definitions, of cells as frozensets of names, and of regions as their texts.


def cells_over(lands):
    """All cells of these lands."""
    return [frozenset(some) for many in range(len(lands) + 1) for some in itertools.combinations(lands, many)]


def over(text, cell):
    """Whether the region with this text lies over the cell."""
    items = text.split(" ")

    def part():
        sign = items.pop(0)
        if sign not in "+*-":
            return sign in cell
        one, other = part(), part()
        return {"+": one or other, "*": one and other, "-": one and not other}[sign]

    return part()


def rows_of(world):
    """The rows of a world, its cells being frozensets."""
    return [[frozenset(cell) for cell in row] for row in world.rows]


def borders_had(rows):
    """The pairs of cells that are borders of these rows, each once, either one first."""
    had = []
    for row in rows:
        pairs = [(cell, cell) for cell in row] + list(zip(row, row[1:]))
        had.extend(pair for pair in pairs if pair not in had and pair[::-1] not in had)
    return had


def word_by_definition(rows, x, y):
    """The word of two texts of regions in these rows, None if there is none."""
    cells = [cell for row in rows for cell in row]
    xs, ys = [over(x, cell) for cell in cells], [over(y, cell) for cell in cells]
    if not any(xs) or not any(ys):
        return None
    borders = [(over(x, p), over(x, q), over(y, p), over(y, q)) for p, q in borders_had(rows)]
    if not any(one and its for one, its in zip(xs, ys)):
        return "meets" if any((p or q) and (r or s) for p, q, r, s in borders) else "apart"
    alone = any(one and not its for one, its in zip(xs, ys))
    beyond = any(its and not one for one, its in zip(xs, ys))
    if alone and beyond:
        return "overlaps"
    if not alone and not beyond:
        return "same"
    if beyond:
        return "deep" if all(r and s for p, q, r, s in borders if p or q) else "rim"
    return "holdsdeep" if all(p and q for p, q, r, s in borders if r or s) else "holdsrim"


def keeps_by_definition(rows, text):
    """Whether these rows keep the saying with this text."""
    if text.startswith("! "):
        return not any(over(text[2:], cell) for row in rows for cell in row)
    items = text.split(" ")
    at = [place for place, item in enumerate(items) if item.split("|")[0] in EIGHT][0]
    word = word_by_definition(rows, " ".join(items[:at]), " ".join(items[at + 1:]))
    return word in items[at].split("|")


def some_rows(chance, lands, most_rows=3, most_cells=5):
    """Rows of lists of names, with some land."""
    while True:
        rows = [[[name for name in lands if chance.random() < 0.4] for _ in range(chance.randint(1, most_cells))]
                for _ in range(chance.randint(1, most_rows))]
        if any(name for row in rows for cell in row for name in cell):
            return rows


def some_region_text(chance, lands, depth=2):
    """The text of a region of these lands."""
    if depth == 0 or chance.random() < 0.4:
        return chance.choice(lands)
    parts = [some_region_text(chance, lands, depth - 1) for _ in range(2)]
    return " ".join([chance.choice("+*-")] + parts)


def chances(number):
    """A source of values that is the same in each run."""
    return random.Random(number)
