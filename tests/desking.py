"""What each line of a desk is to do, told by the functions of the other files."""

from borderwords.alikes import alike
from borderwords.asking import Known, next_asked
from borderwords.bars import shortest
from borderwords.books import Book
from borderwords.desk_lines import read_line
from borderwords.errors import NoName, Twice
from borderwords.idle import is_idle
from borderwords.least import least_book
from borderwords.limits import limit
from borderwords.listed import maps_left
from borderwords.looks import word_of
from borderwords.maps import Map, map_of
from borderwords.onerow import fewest_rows
from borderwords.possible import possible
from borderwords.quarrels import quarrels, taken_back
from borderwords.sure import asked, strongest_of
from borderwords.together import together
from borderwords.vanish import limit_of_world, vanished
from borderwords.worlds import World

# For each first word the kinds of things that its names stand for: n for a new one, b, w, or t for either one.
NAMED = {"book": "n", "join": "nbb", "tell": "b", "strike": "b", "mend": "b", "least": "b", "world": "n", "beside": "nww",
         "vanish": "w", "drop": "t", "names": "", "show": "t", "possible": "b", "rows": "b", "sure": "b", "words": "b",
         "left": "b", "next": "b", "idle": "b", "quarrels": "b", "fits": "bb", "breaks": "bw", "look": "w", "alike": "ww",
         "map": "w", "limit": "ww", "leads": "bb", "film": "bb"}


def numbers(values):
    return " ".join(map(str, values)) or "-"


def by_definition(things, line):
    """What a line leaves of a dict of things, and its answer; errors as the document tells them."""
    word, *values = read_line(line)
    told = list(zip(NAMED[word], values))
    for kind, name in told:
        if kind in "bwt" and (name not in things or kind != "t" and not isinstance(
                things[name], {"b": Book, "w": World}[kind])):
            raise NoName(name)
    for kind, name in told:
        if kind == "n" and name in things:
            raise Twice(name)
    things = dict(things)
    rest = [things[name] if kind != "n" else name for kind, name in told] + values[len(told):]
    deed = {"book": book, "join": join, "tell": tell, "strike": strike, "mend": mend, "least": least, "world": world,
            "beside": beside, "vanish": vanish}.get(word)
    if deed:
        things[values[0]], answer = deed(*rest)
        return things, answer
    if word == "drop":
        del things[values[0]]
        return things, str(len(things))
    return things, numbers(things) if word == "names" else ask(word, *rest)


def book(new, *lands):
    return Book(lands), str(len(lands))


def join(new, one, other):
    made = Book(sorted(set(one.lands) | set(other.lands)), one.sayings + other.sayings)
    return made, str(len(made.sayings))


def tell(one, saying):
    return Book(one.lands, one.sayings + (saying,)), str(len(one.sayings))


def strike(one, *numbers):
    left = one.without(numbers)
    return left, str(len(left.sayings))


def mend(one):
    found = taken_back(one).numbers
    return one.without(found), numbers(found)


def least(one):
    found = least_book(one).numbers
    return Book(one.lands, [one.sayings[at] for at in found]), str(len(found))


def world(new, made):
    return made, str(len(made))


def beside(new, one, other):
    return one.beside(other), str(len(one) + len(other))


def vanish(one, row, start, end):
    return vanished(one, row, start, end), str(len(one) - end + start)


def ask(word, one, *more):
    """The answer to an ask line of these things and values."""
    if word == "next":
        paper = next_asked(one)
        return "known" if type(paper) is Known else f"{paper.one} {paper.other}"
    if word == "fits":
        paper = together(one, *more)
        return "fits" if paper else f"parted {paper.which} {paper.need[0]} {paper.need[1]}"
    if word == "breaks":
        number = one.first_broken(*more)
        return "-" if number is None else str(number)
    if word in ("leads", "film"):
        maps = Map.of(one), Map.of(more[0])
        return limit(*maps).word if word == "leads" else str(len(shortest(*maps).maps))
    return {
        "show": lambda: str(one),
        "possible": lambda: possible(one).word,
        "rows": lambda: str(len(fewest_rows(one).world.rows)),
        "sure": lambda: asked(one, *more).word,
        "words": lambda: numbers(strongest_of(one, *more)),
        "left": lambda: str(len(maps_left(one))),
        "idle": lambda: numbers([at for at in range(len(one.sayings)) if is_idle(one, at)]),
        "quarrels": lambda: " / ".join(numbers(lot) for lot in quarrels(one)) or "-",
        "look": lambda: word_of(one, *more) or "none",
        "alike": lambda: alike(one, *more).word,
        "map": lambda: str(map_of(one)),
        "limit": lambda: limit_of_world(one, *more).word,
    }[word]()


def some_line(chance, names):
    """A line of any kind, most often of names that are kept."""
    word = chance.choice(list(NAMED))
    items = [word] + [chance.choice(names + ["new", "nw"] if kind == "n" else names) for kind in NAMED[word]]
    lands = ["a", "b", "c"]

    def region():
        return chance.choice(["a", "b", "c", "+ a b", "* a c", "- b a"])

    def saying():
        if chance.random() < 0.1:
            return "! " + region()
        return f"{region()} {chance.choice(['apart', 'meets', 'deep', 'rim', 'same', 'deep|rim', 'apart|meets'])} {region()}"

    def row():
        return " ".join(chance.choice(["a", "b", "c", "a+b", "b+c", "-"]) for _ in range(chance.randint(1, 4)))

    if word == "book":
        items += sorted(chance.sample(lands, chance.randint(1, 3)))
    if word in ("tell", "sure"):
        items.append(saying())
    if word == "strike":
        items += [str(chance.randint(0, 3)) for _ in range(chance.randint(1, 2))]
    if word == "world":
        items.append(" / ".join(row() for _ in range(chance.randint(1, 2))) + " a")
    if word == "vanish":
        items += [str(chance.randint(0, 2)) for _ in range(3)]
    if word in ("words", "look"):
        items += [region(), region()]
    return " ".join(items)
