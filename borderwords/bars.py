"""Films of few lands that stay in a book: the shortest ones, what they reach, and what they must pass."""

from borderwords.books import require_book
from borderwords.errors import BadBook, Misfit, TooMany
from borderwords.films import Film
from borderwords.maps import require_map
from borderwords.papers import Denial, Paper
from borderwords.steps import Ground
from borderwords.tables import require_possible_map

MOST_LANDS = 3


class NoFilm(Denial):
    """A closed lot of maps that has the one map, and not the other one."""

    def __init__(self, maps):
        super().__init__("nofilm", maps)
        self.maps = self.parts[0]


class Passes(Paper):
    """The maps that films from the one map reach by no map that keeps the book; the other map is none of them."""

    def __init__(self, maps):
        super().__init__("passes", maps)
        self.maps = self.parts[0]


class Avoids(Denial):
    """A film from the one map to the other one without a map that keeps the book."""

    def __init__(self, film):
        super().__init__("avoids", film)
        self.film = self.parts[0]


def map_keeps(full, book):
    """Whether the map, which need not be possible, keeps the plain book."""
    require_map(full, "full")
    require_plain(book, "book")
    require_same_lands([full, book])
    return is_keeping(full, book)


def reached(full, stays=None):
    """The ascending tuple of the maps that films from this one reach which stay in a book."""
    require_map(full, "full")
    require_staying([full], [], stays)
    require_possible_map(full)
    ground = Ground(full.lands, stays)
    return tuple(ground.maps_in(ground.led_to(ground.bit_of(full), 0)))


def shortest(one, other, stays=None):
    """The first of the shortest Films from one map to another one that stay in a book, or the NoFilm."""
    require_ends(one, other, stays)
    for full in [one, other]:
        require_possible_map(full)
    ground = Ground(one.lands, stays)
    film = film_between(ground, one, other, 0)
    return NoFilm(ground.maps_in(ground.led_to(ground.bit_of(one), 0))) if film is None else film


def passes(one, other, book, stays=None):
    """The Passes if each film from one map to another one that stays has a map that keeps the book, or the Avoids."""
    require_passing(one, other, book, stays)
    for full in [one, other]:
        require_possible_map(full)
    if is_keeping(one, book):
        return Passes([])
    ground = Ground(one.lands, stays)
    barred = ground.keeping(book)
    film = film_between(ground, one, other, barred)
    if film is None:
        return Passes(ground.maps_in(ground.led_to(ground.bit_of(one), barred)))
    return Avoids(film)


def film_between(ground, one, other, barred):
    """The first of the shortest Films from one map to another one by none that is barred, None if there is none."""
    bit, end = ground.bit_of(one), ground.bit_of(other)
    levels = ground.levels_to([end], barred)
    if not any([bits & bit for bits in levels]):
        return None
    row = [bit]
    while row[-1] != end:
        row.append(ground.next_on(row[-1], levels))
    return Film([ground.maps_in(bits)[0] for bits in row])


def require_ends(one, other, stays):
    """Raise what shortest raises, but that a map is not possible."""
    require_map(one, "one")
    require_map(other, "other")
    require_staying([one, other], [], stays)


def require_passing(one, other, book, stays):
    """Raise what passes raises, but that a map is not possible."""
    require_map(one, "one")
    require_map(other, "other")
    require_plain(book, "book")
    require_staying([one, other], [book], stays)


def require_staying(maps, books, stays):
    """Raise what is to be raised of maps, books and what films stay in, told as such ones."""
    require_stays(stays)
    further = [] if stays is None else [stays]
    require_same_lands(maps + books + further)
    require_three_lands(maps[0])
    if stays is not None and not all([is_keeping(full, stays) for full in maps]):
        raise Misfit("stays")


def require_stays(stays):
    """Raise BadBook for what is neither a plain book nor None."""
    if stays is not None:
        require_plain(stays, "stays")


def require_plain(value, part):
    """Raise BadBook for what is no plain book."""
    require_book(value, part)
    if not value.is_plain:
        raise BadBook(part)


def require_same_lands(values):
    """Raise Misfit for maps and books of unlike lands."""
    if not all([value.lands == values[0].lands for value in values]):
        raise Misfit("lands")


def require_three_lands(value):
    """Raise TooMany for more lands than all maps are looked at of."""
    if len(value.lands) > MOST_LANDS:
        raise TooMany("lands", MOST_LANDS)


def is_keeping(full, book):
    """As map_keeps, of what surely fits together."""
    return all([full.table[saying.one.name, saying.other.name] in saying.words for saying in book.sayings])
