"""Histories: films through the books of days."""

from borderwords.bars import require_same_lands, require_stays, require_three_lands
from borderwords.books import Book
from borderwords.checks import is_list
from borderwords.errors import BadBook, TooMany
from borderwords.films import Film
from borderwords.papers import Denial, Paper
from borderwords.steps import Ground

MOST_DAYS = 6


class History(Paper):
    """A film, and for each day the index of a map of it that keeps the book of this day."""

    def __init__(self, film, at):
        super().__init__("history", film, at)
        self.film, self.at = self.parts


class NoHistory(Denial):
    """A day, and for each day ahead of it a closed lot of maps, in the last of which none keeps the day."""

    def __init__(self, day, lots):
        super().__init__("nohistory", day, lots)
        self.day, self.lots = self.parts


def history(days, stays=None):
    """The History of the days with the first of the shortest films, or the NoHistory."""
    require_days(days, stays)
    ground = Ground(days[0].lands, stays)
    keeping = [ground.keeping(day) for day in days]
    lots = []
    for number, places in enumerate(keeping):
        here = [place for place in places if number == 0 or place in lots[-1]]
        if len(here) == 0:
            return NoHistory(number, [ground.maps_at(lot) for lot in lots])
        lots.append(ground.led_to(here, {}))
    return first_history(ground, keeping)


def require_days(days, stays):
    """Raise what history raises."""
    if not is_list(days) or len(days) == 0 or not all([isinstance(day, Book) and day.is_plain for day in days]):
        raise BadBook("days")
    require_stays(stays)
    require_same_lands(list(days) if stays is None else list(days) + [stays])
    require_three_lands(days[0])
    if len(days) > MOST_DAYS:
        raise TooMany("days", MOST_DAYS)


def first_history(ground, keeping):
    """The first of the shortest Histories, of which there is one."""
    tables = steps_left(ground, keeping)
    least = min(list(tables[0].values()))
    row = [min([place for place, left in tables[0].items() if left == least])]
    at = []
    while len(at) < len(keeping):
        if row[-1] in keeping[len(at)]:
            at.append(len(row) - 1)
        else:
            row.append(ground.next_on(row[-1], tables[len(at)]))
    return History(Film([ground.maps_at([place])[0] for place in row]), at)


def steps_left(ground, keeping):
    """For each number of days that are done, what steps a film must still take at least from each place.

    At a map that keeps the next day this day is done at once: to wait makes no film shorter.
    """
    tables = [{place: 0 for place in range(len(ground.rows))}]
    for places in keeping[::-1]:
        ahead = tables[-1]
        tables.append(ground.steps_to({place: ahead[place] for place in places if place in ahead}, {}))
    return tables[::-1]


def fewest_maps(days, stays):
    """How many maps the film of a history of these days has at least, None if there is none."""
    ground = Ground(days[0].lands, stays)
    table = steps_left(ground, [ground.keeping(day) for day in days])[0]
    return 1 + min(list(table.values())) if len(table) > 0 else None
