"""Films, and what is told of them."""

import itertools

from borderwords.errors import (
    BadFilm, BadMap, BadPaper, Impossible, Misfit, NoLand, TooMany, Twice)
from borderwords.films import (
    Film, Leap, fewest_ways, film_of, joined_films, pair_steps, part_film, step_worlds, turned_film, ways_of)
from borderwords.maps import Map, map_of
from borderwords.papers import Denial, Paper
from borderwords.tables import by_threes
from borderwords.vanish import left_of
from borderwords.worlds import World
from tests.filming import Shore, is_film, is_near, is_step, pairs_against, table_of
from tests.support import EIGHT, Case, below, chances, namesake, odd_values
from tests.test_limits import BENT, NO_MAPS, some_limit, some_map, words_of


def pair(*words):
    """Maps of a and b with these words."""
    return [Map(["a", "b"], [word]) for word in words]


def some_film(chance, lands, many=5):
    """The maps of some film."""
    maps = [some_map(chance, lands)]
    for _ in range(many - 1):
        if chance.random() < 0.5 or len(lands) > 3:
            its = some_limit(chance, maps[-1])
        else:
            its = chance.choice([full for full in table_of(tuple(lands))[0].values() if is_near(full, maps[-1])])
        if its != maps[-1]:
            maps.append(its)
    return maps


FAR = pair("deep", "rim", "overlaps", "meets", "apart")
NO_FILMS = [FAR, tuple(FAR), film_of(FAR).parts, Paper("film", FAR), Denial("film", FAR), below(film_of(FAR)),
            namesake(film_of(FAR)), film_of(pair("deep", "meets")), FAR[0], "deep", Film]
WRONG_FILMS = [Film(maps) for maps in (
    [], None, "ab", FAR[0], [FAR[0], None], pair("deep", "meets"), pair("deep", "deep"), [BENT], [FAR[0], Map(["a"], [])],
    [[FAR[0]]], pair("rim", "deep", "deep"), [Map(["a", "c"], ["deep"]), FAR[1]], (FAR[0], "x"), 3)]


class Steps(Case):
    """film_of, ways_of."""

    def told_right(self, maps):
        found = film_of(maps)
        steps = [is_step(one, other) for one, other in zip(maps, maps[1:])]
        if all(steps):
            self.assertEqual(found, Film(maps))
            self.assertTrue(found and is_film(found.maps))
            ways = ["to" if is_near(one, other) else "from" for one, other in zip(maps, maps[1:])]
            self.assertEqual(ways_of(found), tuple(ways))
        else:
            at = steps.index(False)
            to, back = pairs_against(maps[at], maps[at + 1]), pairs_against(maps[at + 1], maps[at])
            self.assertEqual(found, Leap(at, to[0] if to else None, back[0] if back else None))
            self.assertFalse(found)
        self.assertEqual(film_of(maps=list(maps)), found)
        return found

    def test_each_two_words(self):
        for one, other in itertools.product(pair(*EIGHT), repeat=2):
            self.told_right([one, other])
            self.told_right((one, other, one))

    def test_some(self):
        chance = chances(501)
        for lands in ("a", "ab", "abc", "abcd", "abcde"):
            for _ in range(15):
                maps = some_film(chance, lands)
                self.assertTrue(self.told_right(maps))
                self.told_right(maps + [some_map(chance, lands)] + maps)
                self.told_right(maps + maps)
                self.told_right(maps + maps[-1:])

    def test_of_one_map(self):
        for full in pair("deep") + [Map(["a"], []), Map([f"l{at}" for at in range(10)], ["deep"] * 45)]:
            self.assertEqual(self.told_right([full]).maps, (full,))
            self.assertEqual(ways_of(film_of([full])), ())
            self.assertEqual(film_of([full, full]), Leap(0, None, None))

    def test_way_of_three_lands(self):
        """A step is either to or from for all lands at once: two at once in unlike ways are none."""
        one, other = Map(list("abc"), ["apart", "apart", "meets"]), Map(list("abc"), ["meets", "apart", "apart"])
        self.assertEqual(self.told_right([one, other]).parts, (0, ("b", "c"), ("a", "b")))

    def test_errors(self):
        for value in odd_values() + NO_MAPS + [FAR[0], [FAR[0], None], [FAR], {0: FAR[0]}, [FAR[0], "deep"]]:
            self.refused(BadMap("maps"), film_of, value)
        self.refused(BadMap("maps"), film_of, [BENT, FAR[0], None])
        self.refused(Misfit("lands"), film_of, [FAR[0], BENT])
        self.refused(Misfit("lands"), film_of, [BENT, FAR[0]])
        fine = Map(list("abcd"), ["same"] * 6)
        other = Map(list("abcd"), ["deep", "deep", "deep", "holdsdeep", "holdsdeep", "apart"])
        for at in range(3):
            maps = [fine, fine, fine]
            maps[at] = BENT
            self.refused(Impossible(by_threes(BENT)), film_of, maps)
        self.refused(Impossible(by_threes(other)), film_of, [fine, other, BENT])

    def test_papers(self):
        film, leap = Film(maps=[1]), Leap(step=0, to=["a", "b"], back=None)
        self.assertEqual((film.word, film.parts, film.maps), ("film", ((1,),), (1,)))
        self.assertEqual((leap.word, leap.parts, leap.step, leap.to, leap.back), ("leap", (0, ("a", "b"), None), 0,
                                                                                ("a", "b"), None))
        self.assertTrue(film and not leap and isinstance(leap, Denial) and isinstance(film, Paper))
        self.assertNotIsInstance(film, Denial)


class OfFilms(Case):
    """turned_film, joined_films, step_worlds, part_film."""

    def test_turned(self):
        chance = chances(502)
        for _ in range(20):
            maps = some_film(chance, "abc")
            turned = turned_film(film=film_of(maps))
            self.assertEqual(turned, film_of(maps[::-1]))
            other = {"to": "from", "from": "to"}
            self.assertEqual(ways_of(turned), tuple(other[way] for way in ways_of(film_of(maps))[::-1]))

    def test_joined(self):
        chance = chances(503)
        for _ in range(20):
            maps = some_film(chance, "abc")
            at = chance.randrange(len(maps))
            one, other = film_of(maps[:at + 1]), film_of(maps[at:])
            self.assertEqual(joined_films(one=one, other=other), film_of(maps))
        one, other = film_of(FAR), film_of([Map(["a", "c"], ["apart"])])
        self.refused(Misfit("lands"), joined_films, one, other)
        self.refused(Misfit("maps"), joined_films, one, one)
        self.refused(Misfit("maps"), joined_films, one, film_of(FAR[:1]))

    def test_step_worlds(self):
        chance = chances(504)
        for lands in ("a", "ab", "abc", "abcd", "abcde"):
            for _ in range(8):
                maps = some_film(chance, lands)
                found = step_worlds(film=film_of(maps))
                self.assertIs(type(found), tuple)
                self.assertEqual(tuple(way for way, world, kept in found), ways_of(film_of(maps)))
                for (way, world, kept), one, other in zip(found, maps, maps[1:]):
                    full, near = (one, other) if way == "to" else (other, one)
                    self.assertEqual((map_of(world), map_of(left_of(world, kept))), (full, near))
                    self.assertIs(type(kept), tuple)
                    self.assertTrue(all(type(stay) is tuple for stay in kept))
                self.assertEqual(step_worlds(film_of(maps)), found)
        six = [Map(list("abcdef"), [word] * 15) for word in ("deep", "rim")]
        self.refused(TooMany("lands", 5), step_worlds, film_of(six))
        self.refused(TooMany("lands", 5), step_worlds, film_of(six[:1]))
        self.assertEqual(ways_of(film_of(six)), ("to",))

    def test_part_film(self):
        chance = chances(505)
        for lands in ("abc", "abcd"):
            for _ in range(20):
                maps = some_film(chance, lands, 6)
                for many in (1, 2, 3):
                    some = chance.sample(lands, many)
                    wanted = [key for key, group in itertools.groupby([full.part(some).words for full in maps])]
                    found = part_film(film=film_of(maps), lands=some)
                    self.assertEqual([full.words for full in found.maps], wanted)
                    self.assertEqual(found, film_of(found.maps))
                    self.assertEqual(found.maps[0].lands, tuple(sorted(some)))
        film = film_of(FAR)
        for value in [None, "ab", {"a"}, [], ()]:
            self.refused(BadMap("lands"), part_film, film, value)
        self.refused(NoLand("c"), part_film, film, ["a", "c", "a"])
        self.refused(Twice("a"), part_film, film, ["a", "a"])

    def test_errors(self):
        film = film_of(FAR)
        for value in odd_values() + NO_FILMS:
            for call in (ways_of, turned_film, step_worlds):
                self.refused(BadPaper("film"), call, value)
            self.refused(BadPaper("film"), part_film, value, None)
            self.refused(BadPaper("one"), joined_films, value, value)
            self.refused(BadPaper("other"), joined_films, film, value)
            self.refused(BadFilm("one"), joined_films, WRONG_FILMS[0], value)
        for value in WRONG_FILMS:
            for call in (ways_of, turned_film, step_worlds):
                self.refused(BadFilm("film"), call, value)
            self.refused(BadFilm("film"), part_film, value, None)
            self.refused(BadFilm("one"), joined_films, value, None)
            self.refused(BadFilm("other"), joined_films, film, value)


class PairSteps(Case):
    """pair_steps, fewest_ways."""

    def test_each_two_words(self):
        shore = Shore("ab")
        for one, other in itertools.product(pair(*EIGHT), repeat=2):
            self.assertEqual(pair_steps(one=one, other=other), (len(shore.films(one.words, other.words)[0]) - 1,))
            self.fewest_right(one, other)

    def goes(self, word, its, ways):
        words = {word}
        for way in ways:
            words = {after for after in EIGHT for before in words
                     if (after in words_of(before) if way == "to" else before in words_of(after))}
        return its in words

    def fewest_right(self, one, other):
        pairs = list(zip(one.words, other.words))
        for many in range(5):
            for ways in itertools.product(("to", "from"), repeat=many):
                if all(self.goes(word, its, ways) for word, its in pairs):
                    self.assertEqual(fewest_ways(one=one, other=other), ways)
                    return many
        return self.fail("no such ways")

    def test_some(self):
        chance = chances(506)
        for _ in range(60):
            many = chance.randint(1, 6)
            lands = [f"l{at}" for at in range(many)]
            one, other = [Map(lands, [chance.choice(EIGHT) for _ in range(many * (many - 1) // 2)]) for _ in range(2)]
            self.fewest_right(one, other)
            self.assertEqual(pair_steps(one, other), tuple(
                pair_steps(one.part(two), other.part(two))[0] for two in itertools.combinations(lands, 2)))

    def test_no_film_has_fewer_steps(self):
        chance = chances(507)
        shore = Shore("abc")
        for _ in range(40):
            one, other = chance.sample(sorted(shore.maps), 2)
            steps = len(shore.films(one, other)[0]) - 1
            self.assertLessEqual(steps, 4)
            self.assertLessEqual(len(fewest_ways(shore.maps[one], shore.maps[other])), steps)

    def test_one_land_and_equal_maps(self):
        one = Map(["a"], [])
        self.assertEqual((pair_steps(one, one), fewest_ways(one, one)), ((), ()))
        self.assertEqual((pair_steps(BENT, BENT), fewest_ways(BENT, BENT)), ((0,) * 6, ()))

    def test_errors(self):
        for call in (pair_steps, fewest_ways):
            for value in odd_values() + NO_MAPS + [World.read("a"), film_of(FAR)]:
                self.refused(BadMap("one"), call, value, value)
                self.refused(BadMap("other"), call, BENT, value)
            self.refused(Misfit("lands"), call, BENT, FAR[0])
