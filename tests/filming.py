"""The definitions of points [15] and [16] for maps of few lands, looked at pair by pair."""

import functools
import itertools

from borderwords.bars import Avoids, NoFilm, Passes
from borderwords.books import Book
from borderwords.films import Film, Leap
from borderwords.histories import History, NoHistory
from borderwords.listed import maps_left
from borderwords.maps import Map
from borderwords.regions import Land
from borderwords.sayings import Says
from borderwords.tables import by_threes
from tests.support import EIGHT
from tests.test_limits import is_near, words_of


def is_step(one, other):
    return one != other and (is_near(one, other) or is_near(other, one))


def is_possible(full):
    return bool(by_threes(full))


def keeps(full, book):
    """Whether a map keeps a plain book, or None."""
    if book is None:
        return True
    return all(full.word(saying.one.name, saying.other.name) in saying.words for saying in book.sayings)


@functools.lru_cache(maxsize=None)
def table_of(lands):
    """All possible maps of these lands, in order, by their words; and for each one the words of its steps, in order."""
    maps = {full.words: full for full in maps_left(Book(list(lands)))}
    return maps, {words: [its for its in maps if is_step(maps[words], maps[its])] for words in maps}


class Shore:
    """The possible maps of some lands that keep a book, None for all, and their steps."""

    def __init__(self, lands, stays=None, avoided=None):
        maps, steps = table_of(tuple(lands))
        self.maps = {words: full for words, full in maps.items()
                     if keeps(full, stays) and (avoided is None or not keeps(full, avoided))}
        self.steps = {words: [its for its in steps[words] if its in self.maps] for words in self.maps}

    def reached(self, starts):
        found, row = set(starts), list(starts)
        while row:
            for its in self.steps[row.pop()]:
                if its not in found:
                    found.add(its)
                    row.append(its)
        return [words for words in self.maps if words in found]

    def films(self, one, other):
        """All films with fewest maps, each as the words of its maps, in order."""
        rows = [(one,)]
        seen = set()
        while rows:
            done = [row for row in rows if row[-1] == other]
            if done:
                return done
            seen |= {row[-1] for row in rows}
            rows = [row + (its,) for row in rows for its in self.steps[row[-1]] if its not in seen]
        return []

    def full(self, rows):
        return tuple(self.maps[words] for words in rows)


def is_film(maps):
    """Whether a value is the maps of a film."""
    if not isinstance(maps, (list, tuple)) or not maps or not all(isinstance(full, Map) for full in maps):
        return False
    return all(full.lands == maps[0].lands and is_possible(full) for full in maps) and all(
        is_step(one, other) for one, other in zip(maps, maps[1:]))


def pairs_against(full, near):
    """The pairs of lands, ascending, whose word cannot become that of the other map."""
    return [pair for pair in itertools.combinations(full.lands, 2) if near.word(*pair) not in words_of(full.word(*pair))]


def is_right_film(maps, value):
    """Whether a value is the Film of these maps, or a Leap of any step that is none."""
    if not all(is_possible(full) for full in maps):
        return False
    if type(value) is Film:
        return isinstance(value.maps, tuple) and all(isinstance(full, Map) for full in value.maps) and (
            value.maps == tuple(maps) and is_film(maps))
    if type(value) is not Leap or type(value.step) is not int or not 0 <= value.step < len(maps) - 1:
        return False
    one, other = maps[value.step], maps[value.step + 1]
    if one == other:
        return value.to is None and value.back is None
    return is_pair(value.to, pairs_against(one, other)) and is_pair(value.back, pairs_against(other, one))


def is_pair(value, pairs):
    return isinstance(value, tuple) and len(value) == 2 and all(type(land) is str for land in value) and value in pairs


def is_lot(value, shore):
    """Whether a value is an ascending tuple of maps of the shore; all of another kind are none."""
    if not isinstance(value, tuple) or not all(isinstance(full, Map) for full in value):
        return False
    order = list(shore.maps)
    if not all(shore.maps.get(full.words) == full for full in value):
        return False
    places = [order.index(full.words) for full in value]
    return places == sorted(set(places))


def is_closed(value, shore):
    return is_lot(value, shore) and all(shore.maps[its] in value for full in value for its in shore.steps[full.words])


def is_right_shortest(one, other, stays, value):
    if not is_possible(one) or not is_possible(other):
        return False
    shore = Shore(one.lands, stays)
    if type(value) is Film:
        maps = value.maps
        return is_film(maps) and is_among_maps(maps, shore) and maps[0] == one and maps[-1] == other and (
            len(maps) == len(shore.films(one.words, other.words)[0]))
    return type(value) is NoFilm and is_closed(value.maps, shore) and one in value.maps and other not in value.maps


def is_among_maps(maps, shore):
    return all(shore.maps.get(full.words) == full for full in maps)


def is_right_passes(one, other, book, stays, value):
    if not is_possible(one) or not is_possible(other):
        return False
    if type(value) is Avoids:
        if type(value.film) is not Film:
            return False
        maps = value.film.maps
        return (is_film(maps) and maps[0] == one and maps[-1] == other
                and all(keeps(full, stays) and not keeps(full, book) for full in maps))
    shore = Shore(one.lands, stays, book)
    return (type(value) is Passes and is_closed(value.maps, shore) and (keeps(one, book) or one in value.maps)
            and other not in value.maps)


def shortest_history(days, stays):
    """How many maps the film of a history has at least, None if there is none; all films are looked at."""
    shore = Shore(days[0].lands, stays)
    states = {(words, done(full, days, 0)) for words, full in shore.maps.items()}
    seen = set(states)
    many = 1
    while states:
        if any(served == len(days) for words, served in states):
            return many
        states = {(its, done(shore.maps[its], days, served)) for words, served in states for its in shore.steps[words]}
        states -= seen
        seen |= states
        many += 1
    return None


def done(full, days, served):
    while served < len(days) and keeps(full, days[served]):
        served += 1
    return served


def is_right_history(days, stays, value):
    shore = Shore(days[0].lands, stays)
    if type(value) is History:
        return is_history(days, shore, value) and len(value.film.maps) == shortest_history(days, stays)
    if type(value) is not NoHistory or type(value.day) is not int or not 0 <= value.day < len(days):
        return False
    if not isinstance(value.lots, tuple) or len(value.lots) != value.day:
        return False
    ahead = tuple(shore.maps.values())
    for day, lot in zip(days, value.lots):
        if not is_closed(lot, shore) or any(keeps(full, day) and full not in lot for full in ahead):
            return False
        ahead = lot
    return not any(keeps(full, days[value.day]) for full in ahead)


def is_history(days, shore, value):
    if type(value.film) is not Film or not is_film(value.film.maps) or not is_among_maps(value.film.maps, shore):
        return False
    at, maps = value.at, value.film.maps
    if not isinstance(at, tuple) or len(at) != len(days) or not all(type(one) is int for one in at):
        return False
    return (all(0 <= one < len(maps) for one in at) and list(at) == sorted(at)
            and all(keeps(maps[one], day) for one, day in zip(at, days)))


def some_stays(chance, lands, sayings=2):
    """A plain book of these lands, or None."""
    if chance.random() < 0.3:
        return None
    texts, choices = [], 1
    for _ in range(chance.randint(1, sayings)):
        words = [word for word in EIGHT if chance.random() < 0.6][:64 // choices][:7] or ["meets"]
        choices *= len(words)
        texts.append(" ".join([chance.choice(lands), "|".join(words), chance.choice(lands)]))
    if len(lands) == 1:
        texts = ["a same a"]
    return Book.read(" ".join([*lands, ":", " / ".join(texts)]))


def book_by(words):
    """The book of a and b that tells these words of a to b, in any order."""
    return Book(["a", "b"], [Says(Land("a"), words.split("|"), Land("b"))])
