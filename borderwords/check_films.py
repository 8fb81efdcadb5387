"""Whether a value is a right paper of films."""

from borderwords.bars import (
    Avoids, NoFilm, Passes, film_between, is_keeping, require_ends, require_passing)
from borderwords.check_limits import are_staying
from borderwords.checks import is_list, is_within
from borderwords.films import Film, Leap, is_right_film, require_film, require_maps, steps_of
from borderwords.histories import History, NoHistory, fewest_maps, require_days
from borderwords.limits import BECOMES, require_few_lands
from borderwords.maps import Map, map_of
from borderwords.papers import fixed, is_just, is_own
from borderwords.steps import Ground
from borderwords.tables import lands_barred
from borderwords.vanish import left_of
from borderwords.worlds import World


def shows_film(maps, value):
    """Whether any value is the Film of just these maps, or a right Leap of them."""
    require_maps(maps)
    if not are_possible(maps):
        return False
    if isinstance(value, Film) and is_own(value, "Film"):
        return are_just_maps(value.maps, maps) and is_right_film(value)
    if not isinstance(value, Leap) or not is_own(value, "Leap") or not is_within(value.step, 0, len(maps) - 2):
        return False
    one, other = maps[value.step], maps[value.step + 1]
    if one == other:
        return value.to is None and value.back is None
    return are_against(one, other, value.to) and are_against(other, one, value.back)


def are_possible(maps):
    """Whether all of these maps are possible."""
    return all([lands_barred(full) is None for full in maps])


def are_just_maps(value, maps):
    """Whether any value is a tuple of just these maps."""
    if not isinstance(value, tuple) or len(value) != len(maps):
        return False
    return all([isinstance(full, Map) and full == its for full, its in zip(value, maps)])


def are_against(full, near, value):
    """Whether any value is two lands, ascending, whose word in one map cannot become that in the other one."""
    if not isinstance(value, tuple) or len(value) != 2 or not all([isinstance(land, str) for land in value]):
        return False
    one, other = value
    if one not in full.lands or other not in full.lands or not one < other:
        return False
    return near.table[one, other] not in BECOMES[full.table[one, other]]


def shows_steps(film, value):
    """Whether any value tells for each step of the film its way, a world of it, and what stays of this world."""
    require_film(film, "film")
    require_few_lands(film.maps[0])
    steps = steps_of(film)
    if not is_list(value) or len(value) != len(steps):
        return False
    return all([is_step(told, step) for told, step in zip(fixed(value), steps)])


def is_step(value, step):
    """Whether any value is the way of a step, a world of it, and what stays of this world."""
    way, full, near = step
    if not isinstance(value, tuple) or len(value) != 3 or not is_just(value[0], way):
        return False
    if not isinstance(value[1], World) or not are_staying(value[1], value[2]):
        return False
    return map_of(value[1]) == full and map_of(left_of(value[1], value[2])) == near


def shows_shortest(one, other, value, stays=None):
    """Whether any value is a shortest Film from one map to another one, or a right NoFilm."""
    require_ends(one, other, stays)
    if not are_possible([one, other]):
        return False
    ground = Ground(one.lands, stays)
    if isinstance(value, NoFilm) and is_own(value, "NoFilm"):
        return is_lot_around(ground, value.maps, one, other, 0)
    if not is_film_between(ground, value, one, other):
        return False
    return len(value.maps) == len(film_between(ground, one, other, 0).maps)


def shows_passes(one, other, book, value, stays=None):
    """Whether any value is a right Passes, or the Avoids of any film without a map that keeps the book."""
    require_passing(one, other, book, stays)
    if not are_possible([one, other]):
        return False
    ground = Ground(one.lands, stays)
    barred = ground.keeping(book)
    if isinstance(value, Passes) and is_own(value, "Passes"):
        return is_lot_around(ground, value.maps, one, other, barred)
    if not isinstance(value, Avoids) or not is_own(value, "Avoids"):
        return False
    return is_film_between(ground, value.film, one, other) and not any(
        [is_keeping(full, book) for full in value.film.maps])


def is_film_on(ground, value):
    """Whether any value is a right Film of which each map is one of the ground."""
    if not isinstance(value, Film) or not is_own(value, "Film") or not is_right_film(value):
        return False
    return are_on(ground, value.maps)


def is_film_between(ground, value, one, other):
    """Whether any value is such a Film from one map to another one."""
    return is_film_on(ground, value) and value.maps[0] == one and value.maps[-1] == other


def are_on(ground, maps):
    """Whether each of these maps is one of the ground."""
    return all([full.lands == ground.lands and ground.bit_of(full) != 0 for full in maps])


def lot_told(ground, value):
    """The maps of the ground that any value tells, ascending, each once, as bits; None if it tells others."""
    if not isinstance(value, tuple) or not all([isinstance(full, Map) for full in value]) or not are_on(ground, value):
        return None
    bits = [ground.bit_of(full) for full in value]
    if not all([bits[at] < bits[at + 1] for at in range(len(bits) - 1)]):
        return None
    return sum(bits)


def is_closed(ground, lot, barred):
    """Whether each step from these maps leads to one of them, or to a barred one."""
    return (ground.by_step(lot) & ~lot & ~barred) == 0


def is_lot_around(ground, value, one, other, barred):
    """Whether any value is a lot, closed but for barred maps, that has the one map, unless barred, not the other."""
    lot = lot_told(ground, value)
    if lot is None or (lot & (barred | ground.bit_of(other))) != 0:
        return False
    return ((lot | barred) & ground.bit_of(one)) != 0 and is_closed(ground, lot, barred)


def shows_history(days, value, stays=None):
    """Whether any value is a shortest History of the days, or a right NoHistory."""
    require_days(days, stays)
    ground = Ground(days[0].lands, stays)
    if isinstance(value, NoHistory) and is_own(value, "NoHistory"):
        return is_against_days(ground, days, value)
    if not isinstance(value, History) or not is_own(value, "History"):
        return False
    if not is_film_on(ground, value.film):
        return False
    return are_at(value.film, days, value.at) and len(value.film.maps) == fewest_maps(days, stays)


def are_at(film, days, value):
    """Whether any value tells for each day an index of a map of the film that keeps it, none less than one ahead."""
    if not isinstance(value, tuple) or len(value) != len(days):
        return False
    if not all([is_within(at, 0, len(film.maps) - 1) for at in value]):
        return False
    if not all([value[at] <= value[at + 1] for at in range(len(value) - 1)]):
        return False
    return all([is_keeping(film.maps[at], day) for at, day in zip(value, days)])


def is_against_days(ground, days, paper):
    """Whether the day and the lots of a NoHistory are right."""
    if not is_within(paper.day, 0, len(days) - 1) or not isinstance(paper.lots, tuple):
        return False
    lots = [lot_told(ground, lot) for lot in paper.lots]
    if len(lots) != paper.day or not all([lot is not None and is_closed(ground, lot, 0) for lot in lots]):
        return False
    ahead = ground.every
    for day, lot in zip(days, lots):
        if (ahead & ground.keeping(day) & ~lot) != 0:
            return False
        ahead = lot
    return (ahead & ground.keeping(days[paper.day])) == 0
