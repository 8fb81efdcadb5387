"""All maps that are limits of a map, or of which it is one."""

from borderwords.books import Book
from borderwords.errors import BadMap, Impossible, TooMany
from borderwords.listed import maps_left
from borderwords.maps import Map
from borderwords.nearmaps import limits_of, wholes_of
from borderwords.tables import by_threes
from tests.support import Case, odd_values
from tests.test_limits import BENT, NO_MAPS, is_near


class NearMaps(Case):
    """limits_of and wholes_of."""

    def test_each_map_of_few_lands(self):
        for many in (1, 2, 3):
            maps = maps_left(Book(list("xyz"[:many])))
            for full in maps:
                self.assertEqual(limits_of(full), tuple(one for one in maps if is_near(full, one)))
                self.assertEqual(wholes_of(full), tuple(one for one in maps if is_near(one, full)))
                self.assertIn(full, limits_of(full=full))
                self.assertIn(full, wholes_of(full=full))

    def test_errors(self):
        four = Map(list("abcd"), ["same"] * 6)
        three = Map(list("abc"), ["deep", "apart", "deep"])
        for call in (limits_of, wholes_of):
            for value in odd_values() + NO_MAPS:
                self.refused(BadMap("full"), call, value)
            self.refused(TooMany("lands", 3), call, four)
            self.refused(Impossible(by_threes(BENT)), call, BENT)
            self.refused(Impossible(by_threes(three)), call, three)
