"""Histories: films through the books of days."""

from borderwords.bars import require_same_lands, require_stays, require_three_lands
from borderwords.books import Book
from borderwords.checks import is_list
from borderwords.errors import BadBook, TooMany
from borderwords.films import Film
from borderwords.papers import Denial, Paper
from borderwords.steps import Ground, lowest_of

MOST_DAYS = 6


class History(Paper):
    """A film, and for each day the index of a map of it that keeps the book of this day."""

    def __init__(self, film, at):
        super().__init__("history", film, at)
        self.film, self.at = self.parts


class NoHistory(Denial):
    """A day, and for each day ahead of it a closed lot of maps, in the last of which none keeps the day."""

    def __init__(self, day, lots):
        super().__init__("nohistory", day, lots)
        self.day, self.lots = self.parts


def history(days, stays=None):
    """The History of the days with the first of the shortest films, or the NoHistory."""
    require_days(days, stays)
    ground = Ground(days[0].lands, stays)
    keeping = [ground.keeping(day) for day in days]
    lots = []
    for number, bits in enumerate(keeping):
        here = bits if number == 0 else bits & lots[-1]
        if here == 0:
            return NoHistory(number, [ground.maps_in(lot) for lot in lots])
        lots.append(ground.led_to(here, 0))
    return first_history(ground, keeping)


def require_days(days, stays):
    """Raise what history raises."""
    if not is_list(days) or len(days) == 0 or not all([isinstance(day, Book) and day.is_plain for day in days]):
        raise BadBook("days")
    require_stays(stays)
    require_same_lands(list(days) if stays is None else list(days) + [stays])
    require_three_lands(days[0])
    if len(days) > MOST_DAYS:
        raise TooMany("days", MOST_DAYS)


def first_history(ground, keeping):
    """The first of the shortest Histories, of which there is one."""
    tables = steps_left(ground, keeping)
    row = [lowest_of([bits for bits in tables[0] if bits != 0][0])]
    at = []
    while len(at) < len(keeping):
        if row[-1] & keeping[len(at)]:
            at.append(len(row) - 1)
        else:
            row.append(ground.next_on(row[-1], tables[len(at)]))
    return History(Film([ground.maps_in(bits)[0] for bits in row]), at)


def steps_left(ground, keeping):
    """For each number of days that are done, and each number of steps, the maps from which a film needs so many.

    At a map that keeps the next day this day is done at once: to wait makes no film shorter.
    """
    tables = [[ground.every]]
    for bits in keeping[::-1]:
        tables.append(ground.levels_to([bits & level for level in tables[-1]], 0))
    return tables[::-1]


def fewest_maps(days, stays):
    """How many maps the film of a history of these days has at least, None if there is none."""
    ground = Ground(days[0].lands, stays)
    levels = steps_left(ground, [ground.keeping(day) for day in days])[0]
    return min([1 + steps for steps, bits in enumerate(levels) if bits != 0], default=None)
