"""Films: possible maps, each of which can become the next one, or the next one it."""

from borderwords.checks import is_list, pairs_of
from borderwords.errors import BadFilm, BadMap, BadPaper, Misfit
from borderwords.limits import (
    BECOMES, limit_world, pair_against, require_few_lands, require_two_maps, words_before)
from borderwords.maps import Map
from borderwords.papers import Denial, Paper, fixed, is_own
from borderwords.tables import lands_barred, require_possible_map

MOST_WAYS = 4


class Film(Paper):
    """Possible maps of the same lands, each but the first one a step from the one ahead of it."""

    def __init__(self, maps):
        super().__init__("film", maps)
        self.maps = self.parts[0]


class Leap(Denial):
    """A step that is none: two lands against it to the later map, two against it back; None for equal maps."""

    def __init__(self, step, to, back):
        super().__init__("leap", step, to, back)
        self.step, self.to, self.back = self.parts


def film_of(maps):
    """The Film of just these maps, or the Leap of the first step that is none."""
    require_maps(maps)
    for full in maps:
        require_possible_map(full)
    leap = first_leap(maps)
    return Film(maps) if leap is None else leap


def ways_of(film):
    """The tuple of the ways of the steps of a film."""
    require_film(film, "film")
    return tuple([way for way, full, near in steps_of(film)])


def turned_film(film):
    """The Film of the same maps, the last one first."""
    require_film(film, "film")
    return Film(film.maps[::-1])


def joined_films(one, other):
    """The Film of the maps of one, then of those of other but the first one, which the two share."""
    require_film(one, "one")
    require_film(other, "other")
    if one.maps[0].lands != other.maps[0].lands:
        raise Misfit("lands")
    if one.maps[-1] != other.maps[0]:
        raise Misfit("maps")
    return Film(one.maps + other.maps[1:])


def step_worlds(film):
    """For each step its way, a world of the map of which the other one is the limit, and what stays of it."""
    require_film(film, "film")
    require_few_lands(film.maps[0])
    found = []
    for way, full, near in steps_of(film):
        world, kept = limit_world(full, near)
        found.append((way, world, fixed(kept)))
    return tuple(found)


def part_film(film, lands):
    """The Film of the parts of the maps with these lands, without those that equal the one ahead of them."""
    require_film(film, "film")
    maps = []
    for full in film.maps:
        part = full.part(lands)
        if len(maps) == 0 or part != maps[-1]:
            maps.append(part)
    return Film(maps)


def pair_steps(one, other):
    """For each two lands, in order, the steps of a shortest film of these two alone."""
    require_two_maps(one, other)
    return tuple([steps_between(one.table[pair], other.table[pair]) for pair in pairs_of(one.lands)])


def fewest_ways(one, other):
    """The fewest ways, the first of as many, by which each two lands can go from the one map to the other one."""
    require_two_maps(one, other)
    pairs = list({(one.table[pair], other.table[pair]): True for pair in pairs_of(one.lands)})
    rows = [()]
    for _ in range(MOST_WAYS):
        for ways in rows:
            if all([end in words_by_ways(start, ways) for start, end in pairs]):
                return ways
        rows = [ways + (way,) for ways in rows for way in ("to", "from")]
    # By as many ways, one the other way about than the one ahead, each word becomes each other one.
    return [row for row in rows if all([end in words_by_ways(start, row) for start, end in pairs])][0]


def require_maps(maps):
    """Raise BadMap for what is no list of one map or more, Misfit for maps of unlike lands."""
    if not are_maps(maps):
        raise BadMap("maps")
    if not all([full.lands == maps[0].lands for full in maps]):
        raise Misfit("lands")


def are_maps(value):
    """Whether any value is a list of one map or more."""
    return is_list(value) and len(value) > 0 and all([isinstance(full, Map) for full in value])


def require_film(value, part):
    """Raise BadPaper for what is no Film, BadFilm for one that is not right."""
    if not isinstance(value, Film) or not is_own(value, "Film"):
        raise BadPaper(part)
    if not is_right_film(value):
        raise BadFilm(part)


def is_right_film(film):
    """Whether film_of returns this Film for its maps."""
    maps = film.maps
    if not are_maps(maps) or not all([full.lands == maps[0].lands and lands_barred(full) is None for full in maps]):
        return False
    return first_leap(maps) is None


def first_leap(maps):
    """The Leap of the first step of these maps that is none, None if each one is."""
    for step in range(len(maps) - 1):
        to, back = pair_against(maps[step], maps[step + 1]), pair_against(maps[step + 1], maps[step])
        if maps[step] == maps[step + 1] or (to is not None and back is not None):
            return Leap(step, to, back)
    return None


def steps_of(film):
    """For each step of a film its way, the map of which the other one is the limit, and this one."""
    found = []
    for step in range(len(film.maps) - 1):
        one, other = film.maps[step], film.maps[step + 1]
        if pair_against(one, other) is None:
            found.append(("to", one, other))
        else:
            found.append(("from", other, one))
    return found


def next_words(word, way):
    """The words that a word can become by one way, or stay."""
    return BECOMES[word] if way == "to" else words_before(word)


def words_by_ways(word, ways):
    """The words that a word can become, or stay, by these ways."""
    words = [word]
    for way in ways:
        words = list({after: True for before in words for after in next_words(before, way)})
    return words


def steps_between(word, its):
    """The steps of a shortest film of two lands alone from one word to another one."""
    many = 0
    words = [word]
    while its not in words:
        words = list({after: True for before in words for way in ("to", "from") for after in next_words(before, way)})
        many = many + 1
    return many
