"""Shelves: books and worlds, each kept under a name."""

from borderwords.books import Book
from borderwords.checks import is_list, is_name, require_unlike
from borderwords.desk_lines import SHAPES
from borderwords.errors import BadDesk, NoName, Twice
from borderwords.worlds import World


class Shelf:
    """What a desk keeps: books and worlds under names, in the order in which they were put in."""

    def __init__(self, things=()):
        if not is_list(things) or not all([is_thing(pair) for pair in things]):
            raise BadDesk("things")
        require_unlike([pair[0] for pair in things])
        self.things = tuple([(name, value) for name, value in things])
        self.names = tuple([name for name, value in self.things])

    def __eq__(self, other):
        return isinstance(other, Shelf) and self.things == other.things

    def book(self, name):
        """The book that is kept under this name."""
        found = self.thing(name)
        if not isinstance(found, Book):
            raise NoName(name)
        return found

    def world(self, name):
        """The world that is kept under this name."""
        found = self.thing(name)
        if not isinstance(found, World):
            raise NoName(name)
        return found

    def thing(self, name):
        """The book or the world that is kept under this name."""
        if not isinstance(name, str) or name not in self.names:
            raise NoName(name)
        return self.things[self.names.index(name)][1]

    def with_thing(self, name, value):
        """The shelf with a thing put in its place, or behind all others where the name is new."""
        if name not in self.names:
            return Shelf(self.things + ((name, value),))
        return Shelf([(own, value if own == name else kept) for own, kept in self.things])

    def without(self, name):
        """The shelf without the thing of this name."""
        return Shelf([pair for pair in self.things if pair[0] != name])


def is_thing(value):
    """Whether any value is a pair of a name and of a book or a world."""
    return is_list(value) and len(value) == 2 and is_name(value[0]) and isinstance(value[1], (Book, World))


def require_shelf(value, part):
    """Raise BadDesk for what is no shelf."""
    if not isinstance(value, Shelf):
        raise BadDesk(part)


def require_names(shelf, told):
    """Raise NoName for the first name of a line that has no such thing, then Twice for a new one that has one."""
    named = list(zip(SHAPES[told[0]], told[1:]))
    for kind, name in named:
        if kind == "book":
            shelf.book(name)
        if kind == "world":
            shelf.world(name)
        if kind == "thing":
            shelf.thing(name)
    for kind, name in named:
        if kind == "new" and name in shelf.names:
            raise Twice(name)
