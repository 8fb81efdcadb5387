"""What the tests share: examples, errors, odd values, and the definitions, looked at one by one."""

import functools
import importlib
import itertools
import pathlib
import random
import time
import unittest

from borderwords.books import Book
from borderwords.errors import BadText, WordsError
from borderwords.papers import Denial, Paper
from borderwords.possible import Barred
from borderwords.worlds import World

EXAMPLES = pathlib.Path(__file__).resolve().parent / "examples"
SECTIONS = ("errors checks papers regions worlds looks alikes check_alikes sayings books borders possible "
            "check_possible maps tables widened closing listed check_maps sure brought left asking check_sure "
            "idle least quarrels check_least traces together joined check_together parts onerow straight check_rows "
            "sizes cones sized sizedrows shares check_sizes vanish limits nearmaps check_limits "
            "films bars histories check_films desk_lines shelves desk_deeds desk_asks desk stories").split()
EIGHT = ("apart", "meets", "overlaps", "same", "deep", "rim", "holdsdeep", "holdsrim")
LANDS = ("a", "b", "c", "d", "e")


class Odd:
    """A value that equals every other one, and can be none of the package."""

    def __eq__(self, other):
        return True


def odd_values():
    """Values that are no name, integer, word, list, or value of a class of the package."""
    return [None, True, False, 1.5, float("nan"), b"a", "", "A", "1a", "a b", "a-b", "twelveletters", {}, {"a": 1},
            {"a"}, object(), Odd(), int, len, [None], ([],)]


def least_time(call, rounds=7, calls=20):
    """The least time that some calls, one behind another, take: by rounds, so that other work bears less on it."""
    found = []
    for _ in range(rounds):
        start = time.process_time()
        for _ in range(calls):
            call()
        found.append(time.process_time() - start)
    return min(found)


class Case(unittest.TestCase):
    """A test case that can look at errors."""

    def refused(self, wanted, call, *values, **named):
        """The call raises just this error: of its class, with its fields."""
        try:
            found = call(*values, **named)
        except type(wanted) as error:
            self.assertIs(type(error), type(wanted))
            self.assertEqual(set(vars(error)), set(vars(wanted)))
            for name, field in vars(wanted).items():
                own = vars(error)[name]
                self.assertTrue(is_field(own, field), (name, own, field))
            return
        self.fail(f"{found!r} instead of {type(wanted).__name__} {vars(wanted)}")

    def read_only(self, reader, text):
        """The text is read as a value of which it is the text."""
        self.assertEqual(str(reader(text)), text)


def is_field(own, field):
    """Whether a field of an error is just this one, which may be an error itself."""
    if isinstance(field, WordsError):
        return type(own) is type(field) and vars(own).keys() == vars(field).keys() and all(
            is_field(vars(own)[name], value) for name, value in vars(field).items())
    return own is field or (type(own) is type(field) and own == field)


def below(paper):
    """What would be this paper, made by calling a class of a caller's own that is below the paper's class."""
    return type("Own" + type(paper).__name__, (type(paper),), {})(*paper.parts)


def bent(value):
    """Values that come of the parts of papers by a change at one place.

    Of a tuple an item is left out, doubled, exchanged with the one ahead, or bent; of a paper the class, or a part.
    """
    if isinstance(value, Paper):
        yield from (None, value.parts, below(value), namesake(value))
        yield from (Paper(value.word, *value.parts), Denial(value.word, *value.parts))
        rows = (parts for parts in bent(value.parts) if isinstance(parts, tuple) and len(parts) == len(value.parts))
        yield from (type(value)(*parts) for parts in rows)
    elif isinstance(value, tuple):
        yield from (None, "".join(part for part in value if isinstance(part, str)), dict(enumerate(value)))
        yield value + (None,)
        for at, part in enumerate(value):
            ahead, behind = value[:at], value[at + 1:]
            yield ahead + behind
            yield ahead + (part, part) + behind
            yield from (ahead + (one,) + behind for one in bent(part))
            if at > 0:
                yield value[:at - 1] + (part, value[at - 1]) + behind
    elif isinstance(value, str):
        yield from (None, 0, "", value + "x", value.upper(), (value,), "a", "b", "deep", "one", "edge", Odd())
    elif isinstance(value, int):
        yield from (None, str(value), float(value), value + 1, value - 1, (value,), Odd())
        yield from [bool(value)] if value in (0, 1) else []
    else:
        yield from (None, 0, str(value), (value,), Odd())


def as_lists(value):
    """The value with each tuple in it as a list."""
    return [as_lists(part) for part in value] if isinstance(value, tuple) else value


def is_exact(value, wanted):
    """Whether a value is this one of tuples, strings, integers and other values, without regard to how they equal."""
    if isinstance(wanted, tuple):
        return (isinstance(value, tuple) and len(value) == len(wanted)
                and all(is_exact(one, other) for one, other in zip(value, wanted)))
    return type(value) is type(wanted) and value == wanted


def is_one_of(value, wanted):
    """Whether a value is just one of these."""
    return any(is_exact(value, one) for one in wanted)


def namesake(paper):
    """What looks like this paper, made by calling a class of the same name that is not the paper's class."""
    base = Denial if isinstance(paper, Denial) else Paper
    found = type(type(paper).__name__, (base,), {})(paper.word, *paper.parts)
    for name, value in vars(paper).items():
        setattr(found, name, value)
    return found


def namespace():
    """All that the sections told so far define."""
    names = {}
    for section in SECTIONS:
        module = importlib.import_module("borderwords." + section)
        names.update({name: value for name, value in vars(module).items() if not name.startswith("__")})
    return names


def examples():
    """The examples of all sections, in order: pairs of an input and of what it gives, perhaps nothing."""
    found = []
    for section in SECTIONS:
        path = EXAMPLES / (section + ".txt")
        for line in path.read_text().splitlines() if path.exists() else []:
            if line.startswith(">>> "):
                found.append([section, line[4:], None])
            else:
                found[-1][2] = line
    return found


# The definitions, of cells as frozensets of names, and of regions as their texts.


def cells_over(lands):
    """All cells of these lands."""
    return [frozenset(some) for many in range(len(lands) + 1) for some in itertools.combinations(lands, many)]


def over(text, cell):
    """Whether the region with this text lies over the cell."""
    items = text.split(" ")

    def part():
        sign = items.pop(0)
        if sign not in "+*-":
            return sign in cell
        one, other = part(), part()
        return {"+": one or other, "*": one and other, "-": one and not other}[sign]

    return part()


def rows_of(world):
    """The rows of a world, its cells being frozensets."""
    return [[frozenset(cell) for cell in row] for row in world.rows]


def borders_had(rows):
    """The pairs of cells that are borders of these rows, each once, either one first."""
    had = []
    for row in rows:
        pairs = [(cell, cell) for cell in row] + list(zip(row, row[1:]))
        had.extend(pair for pair in pairs if pair not in had and pair[::-1] not in had)
    return had


def word_by_definition(rows, x, y):
    """The word of two texts of regions in these rows, None if there is none."""
    cells = [cell for row in rows for cell in row]
    xs, ys = [over(x, cell) for cell in cells], [over(y, cell) for cell in cells]
    if not any(xs) or not any(ys):
        return None
    borders = [(over(x, p), over(x, q), over(y, p), over(y, q)) for p, q in borders_had(rows)]
    if not any(one and its for one, its in zip(xs, ys)):
        return "meets" if any((p or q) and (r or s) for p, q, r, s in borders) else "apart"
    alone = any(one and not its for one, its in zip(xs, ys))
    beyond = any(its and not one for one, its in zip(xs, ys))
    if alone and beyond:
        return "overlaps"
    if not alone and not beyond:
        return "same"
    if beyond:
        return "deep" if all(r and s for p, q, r, s in borders if p or q) else "rim"
    return "holdsdeep" if all(p and q for p, q, r, s in borders if r or s) else "holdsrim"


def keeps_by_definition(rows, text):
    """Whether these rows keep the saying with this text."""
    if text.startswith("! "):
        return not any(over(text[2:], cell) for row in rows for cell in row)
    x, words, y = says_parts(text)
    return word_by_definition(rows, x, y) in words


def some_rows(chance, lands, most_rows=3, most_cells=5):
    """Rows of lists of names, with some land."""
    while True:
        rows = [[[name for name in lands if chance.random() < 0.4] for _ in range(chance.randint(1, most_cells))]
                for _ in range(chance.randint(1, most_rows))]
        if any(name for row in rows for cell in row for name in cell):
            return rows


def some_region_text(chance, lands, depth=2):
    """The text of a region of these lands."""
    if depth == 0 or chance.random() < 0.4:
        return chance.choice(lands)
    parts = [some_region_text(chance, lands, depth - 1) for _ in range(2)]
    return " ".join([chance.choice("+*-")] + parts)


def chances(number):
    """A source of values that is the same in each run."""
    return random.Random(number)


def says_parts(text):
    """The texts of the two regions of a Says, and its words between."""
    items = text.split(" ")
    at = [place for place, item in enumerate(items) if item.split("|")[0] in EIGHT][0]
    return " ".join(items[:at]), items[at].split("|"), " ".join(items[at + 1:])


def bars_by_definition(text, p, q):
    """Whether a saying of one word, told by its text, bars the border of the cells p and q."""
    if text.startswith("! "):
        return over(text[2:], p) or over(text[2:], q)
    x, (word,), y = says_parts(text)
    if word in ("holdsdeep", "holdsrim"):
        x, y, word = y, x, {"holdsdeep": "deep", "holdsrim": "rim"}[word]
    xs, ys = [over(x, p), over(x, q)], [over(y, p), over(y, q)]
    return {
        "apart": any(xs) and any(ys),
        "meets": any(one and its for one, its in zip(xs, ys)),
        "overlaps": False,
        "same": any(bool(one) != bool(its) for one, its in zip(xs, ys)),
        "deep": any(xs) and not all(ys),
        "rim": any(one and not its for one, its in zip(xs, ys)),
    }[word]


def needs_by_definition(lands, texts):
    """The needs of a book of one word, each with a function of two cells that tells whether they have it."""
    found = [(("land", name), on_equal(lambda cell, name=name: name in cell)) for name in sorted(lands)]
    for number, text in enumerate(texts):
        if not text.startswith("! "):
            x, (word,), y = says_parts(text)
            found.extend(((kind, number), has) for kind, has in needs_of_says(x, word, y))
    return found


def on_equal(has):
    """Of two cells: whether they are equal, and have it."""
    return lambda p, q: p == q and bool(has(p))


def needs_of_says(x, word, y):
    """The kinds of needs of a Says, each with a function of two cells."""
    def at(region, p, q):
        return over(region, p) or over(region, q)

    def through(region, p, q):
        return over(region, p) and over(region, q)

    alone = ("alone", on_equal(lambda cell: over(x, cell) and not over(y, cell)))
    beyond = ("beyond", on_equal(lambda cell: over(y, cell) and not over(x, cell)))
    both = ("both", on_equal(lambda cell: over(x, cell) and over(y, cell)))
    behind = {
        "meets": [("touch", lambda p, q: at(x, p, q) and at(y, p, q))],
        "overlaps": [both, alone, beyond],
        "deep": [beyond],
        "holdsdeep": [alone],
        "rim": [beyond, ("edge", lambda p, q: at(x, p, q) and not through(y, p, q))],
        "holdsrim": [alone, ("edge", lambda p, q: at(y, p, q) and not through(x, p, q))],
    }
    ahead = [("one", on_equal(lambda cell: over(x, cell))), ("other", on_equal(lambda cell: over(y, cell)))]
    return ahead + behind.get(word, [])


def names_of(cell):
    """The tuple of the names of a cell."""
    return tuple(sorted(cell))


def cell_order(cell):
    """What cells are ordered by: how many names, then the names."""
    return (len(cell), names_of(cell))


def all_borders(lands):
    """All pairs of cells of these lands, the first one not behind the second one, in order."""
    cells = sorted(cells_over(sorted(lands)), key=cell_order)
    return [(p, q) for at, p in enumerate(cells) for q in cells[at:]]


def let_by_definition(lands, texts):
    """The borders that no saying with one of these texts bars, in order."""
    return [(p, q) for p, q in all_borders(lands) if not any(bars_by_definition(text, p, q) for text in texts)]


def lacks_by_definition(lands, texts):
    """The needs of a book of one word that no let border has, in order."""
    let = let_by_definition(lands, texts)
    return [need for need, has in needs_by_definition(lands, texts) if not any(has(p, q) for p, q in let)]


@functools.lru_cache(maxsize=None)
def borders_in_order(lands):
    """All borders of a tuple of lands, in order."""
    return tuple(all_borders(lands))


@functools.lru_cache(maxsize=None)
def barred_places(lands, text):
    """The places of the borders, all in order, that a saying of one word bars."""
    return frozenset(at for at, (p, q) in enumerate(borders_in_order(lands)) if bars_by_definition(text, p, q))


@functools.lru_cache(maxsize=None)
def had_places(lands, *texts):
    """The needs of the book of one word with no saying but these, each with the places of the borders that have it."""
    return [(need, frozenset(at for at, (p, q) in enumerate(borders_in_order(lands)) if has(p, q)))
            for need, has in needs_by_definition(lands, texts)]


def told_by_definition(lands, texts):
    """Of a book of one word the places of the borders that it lets, and its needs, each with those that have it."""
    lands = tuple(sorted(lands))
    let = frozenset(range(len(borders_in_order(lands))))
    needs = list(had_places(lands))
    for number, text in enumerate(texts):
        let = let - barred_places(lands, text)
        needs.extend(((kind, number), places) for (kind, _), places in had_places(lands, text)[len(lands):])
    return let, needs


def is_possible_by_definition(lands, texts):
    """Whether a book with sayings of these texts is possible: whether one of its choices has all that it needs."""
    for row in single_texts(texts):
        let, needs = told_by_definition(lands, row)
        if all(let & places for need, places in needs):
            return True
    return False


def against_by_definition(text):
    """The texts of the sayings of which no one may be possible if this one is surely so."""
    if text.startswith("! "):
        return [f"{text[2:]} same {text[2:]}"]
    x, words, y = says_parts(text)
    return [f"{x} {word} {y}" for word in EIGHT if word not in words] + [f"! {x}", f"! {y}"]


def single_words(texts):
    """The words of the Says of one word with these texts, as Barreds tell them."""
    return tuple(says_parts(text)[1][0] for text in texts if not text.startswith("! "))


def barred_rows_by_definition(lands, texts):
    """For each choice of a book the words taken, and the needs that no border has which it lets."""
    rows = []
    for row in single_texts(texts):
        let, needs = told_by_definition(lands, row)
        rows.append((single_words(row), [need for need, places in needs if not let & places]))
    return rows


def is_right_barred(lands, texts, value):
    """Whether a value is by the definitions a right Barred of the book with sayings of these texts."""
    rows = barred_rows_by_definition(lands, texts)
    if type(value) is not Barred or not isinstance(value.rows, tuple) or len(value.rows) != len(rows):
        return False
    return all(isinstance(row, tuple) and len(row) == 2 and is_exact(row[0], words) and is_one_of(row[1], lacks)
               for row, (words, lacks) in zip(value.rows, rows))


def book_read(lands, texts):
    """The book of these lands with sayings of these texts."""
    return Book.read(book_text(lands, texts))


def world_keeps(world, lands, texts):
    """Whether a value is a world with just these lands that keeps each saying with one of these texts."""
    return isinstance(world, World) and world.lands == tuple(sorted(lands)) and all(keeps_by_definition(rows_of(world), text) for text in texts)


def single_texts(texts):
    """For each choice of sayings with these texts, in order, the texts of its sayings of one word."""
    rows = []
    for text in texts:
        if text.startswith("! "):
            rows.append([text])
        else:
            x, words, y = says_parts(text)
            rows.append([f"{x} {word} {y}" for word in words])
    return [list(row) for row in itertools.product(*rows)]


def some_saying_text(chance, lands, depth=2, most_words=7):
    """The text of a saying of these lands, which may be a Nowhere."""
    if chance.random() < 0.15:
        return "! " + some_region_text(chance, lands, depth)
    words = chance.sample(EIGHT, chance.randint(1, most_words))
    words = "|".join(word for word in EIGHT if word in words)
    return " ".join([some_region_text(chance, lands, depth), words, some_region_text(chance, lands, depth)])


def some_plain_text(chance, lands, most_words=1):
    """The text of a Says of two of these lands, perhaps equal ones."""
    words = chance.sample(EIGHT, chance.randint(1, most_words))
    words = "|".join(word for word in EIGHT if word in words)
    return " ".join([chance.choice(lands), words, chance.choice(lands)])


def book_text(lands, texts):
    """The text of the book of these lands with sayings of these texts."""
    return " ".join([*sorted(lands), ":"] + ([" / ".join(texts)] if texts else []))


def items_changed(text, others):
    """The texts that come of a text by exchanging, leaving out, putting in one item, or doubling a blank."""
    items = text.split(" ")
    found = []
    for at in range(len(items) + 1):
        for other in others:
            found.append(items[:at] + [other] + items[at + 1:])
            found.append(items[:at] + [other] + items[at:])
        found.append(items[:at] + items[at + 1:])
        found.append(items[:at] + [""] + items[at:])
        found.append(items[:at])
    return sorted({" ".join(one) for one in found} - {text})


def is_read(reader, items):
    """Whether the reader reads the text of these items."""
    try:
        reader(" ".join(items))
    except BadText:
        return False
    return True


def item_by_trying(reader, text, tails, most):
    """The item that cannot stand: the first one behind which no text goes on that is read.

    What may follow is tried, made of at most so many of the tails. The number of items, if each can
    stand. None if the text is read.
    """
    items = text.split(" ")
    if is_read(reader, items):
        return None
    for at in range(len(items)):
        ahead = items[:at + 1]
        rows = (row for many in range(most + 1) for row in itertools.product(tails, repeat=many))
        if not any(is_read(reader, ahead + list(row)) for row in rows):
            return at
    return len(items)
