"""All maps that are limits of a map, or of which it is a limit, for few lands."""

from borderwords.errors import TooMany
from borderwords.limits import BECOMES, words_before
from borderwords.maps import Map, require_map
from borderwords.tables import require_possible_map
from borderwords.threes import possible_rows

MOST_LANDS = 3


def limits_of(full):
    """The tuple of all possible maps that are limits of the map, in order."""
    require_near(full)
    return tuple([Map(full.lands, words) for words in possible_rows([BECOMES[word] for word in full.words])])


def wholes_of(full):
    """The tuple of all possible maps of which the map is a limit, in order."""
    require_near(full)
    return tuple([Map(full.lands, words) for words in possible_rows([words_before(word) for word in full.words])])


def require_near(full):
    """Raise what the functions of this file raise."""
    require_map(full, "full")
    require_possible_map(full)
    if len(full.lands) > MOST_LANDS:
        raise TooMany("lands", MOST_LANDS)
