"""All maps that are limits of a map, or of which it is a limit, for few lands."""

from borderwords.checks import WORDS
from borderwords.errors import TooMany
from borderwords.limits import BECOMES
from borderwords.maps import Map, require_map
from borderwords.tables import require_possible_map
from borderwords.threes import is_three

MOST_LANDS = 3


def limits_of(full):
    """The tuple of all possible maps that are limits of the map, in order."""
    require_near(full)
    return tuple([Map(full.lands, words) for words in possible_rows([BECOMES[word] for word in full.words])])


def wholes_of(full):
    """The tuple of all possible maps of which the map is a limit, in order."""
    require_near(full)
    return tuple([Map(full.lands, words) for words in possible_rows([words_before(word) for word in full.words])])


def require_near(full):
    """Raise what the functions of this file raise."""
    require_map(full, "full")
    require_possible_map(full)
    if len(full.lands) > MOST_LANDS:
        raise TooMany("lands", MOST_LANDS)


def words_before(word):
    """The tuple of the words that may become this one in a limit."""
    return tuple([before for before in WORDS if word in BECOMES[before]])


def possible_rows(choices):
    """The words of all possible maps of at most three lands, in order, that have for each two lands one of these."""
    rows = [()]
    for words in choices:
        rows = [row + (word,) for row in rows for word in words]
    if len(choices) < 3:
        return rows
    return [row for row in rows if is_three(row[0], row[2], row[1])]
