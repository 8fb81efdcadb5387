"""Which papers of films are right."""

import itertools

from borderwords.bars import Avoids, NoFilm, Passes, passes, reached, shortest
from borderwords.books import Book
from borderwords.check_films import shows_film, shows_history, shows_passes, shows_shortest, shows_steps
from borderwords.errors import BadBook, BadFilm, BadMap, BadPaper, Misfit, TooMany
from borderwords.films import Film, Leap, film_of, step_worlds
from borderwords.histories import History, NoHistory, history
from borderwords.maps import Map, map_of
from borderwords.papers import Denial, Paper
from borderwords.worlds import World
from tests.filming import (
    Shore, book_by, is_film, is_near, is_right_film, is_right_history, is_right_passes, is_right_shortest, some_stays)
from tests.support import EIGHT, Case, as_lists, below, bent, chances, odd_values
from tests.test_bars import BAD, NO_PLAIN, some_maps
from tests.test_check_limits import rows_kept
from tests.test_films import FAR, NO_FILMS, WRONG_FILMS, pair, some_film
from tests.test_limits import BENT, NO_MAPS, some_map


class Agreeing(Case):
    """A check function, and the definition beside it."""

    def agrees(self, check, right, values, value, **named):
        wanted = bool(right(*values, *named.values(), value))
        self.assertIs(check(*values, value, **named), wanted, (values, named, getattr(value, "parts", value)))
        return wanted

    def bends(self, check, right, values, paper, **named):
        self.assertTrue(self.agrees(check, right, values, paper, **named))
        met = [self.agrees(check, right, values, value, **named) for value in bent(paper)]
        self.assertTrue(self.agrees(check, right, values, type(paper)(*as_lists(paper.parts)), **named))
        self.assertFalse(self.agrees(check, right, values, below(paper), **named))
        for value in odd_values():
            self.agrees(check, right, values, value, **named)
            for at in range(len(paper.parts)):
                parts = (*paper.parts[:at], value, *paper.parts[at + 1:])
                self.agrees(check, right, values, type(paper)(*parts), **named)
        for kind in (Paper, Denial):
            self.assertFalse(self.agrees(check, right, values, kind(paper.word, *paper.parts), **named))
        return met


class ShowsFilm(Agreeing):
    """shows_film."""

    def test_some(self):
        chance = chances(531)
        for lands in ("a", "ab", "abc", "abcd"):
            for _ in range(6):
                maps = some_film(chance, lands)
                for rows in (maps, maps + [some_map(chance, lands)], maps[:1] * 2 + maps, maps[:1]):
                    self.bends(shows_film, is_right_film, (rows,), film_of(rows))
                self.assertFalse(self.agrees(shows_film, is_right_film, (maps + maps[-1:],), Film(maps)))

    def test_each_step_and_pair(self):
        maps = [Map.read(text) for text in ("a b c : apart apart meets", "a b c : meets apart apart",
                                            "a b c : apart apart meets", "a b c : apart apart meets",
                                            "a b c : meets apart meets")]
        pairs = [None, ("a", "b"), ("a", "c"), ("b", "c"), ("b", "a"), ("a", "a"), ("a", "d"), ["a", "b"], "ab", ("a",)]
        met = [self.agrees(shows_film, is_right_film, (maps,), Leap(step, to, back))
               for step in range(-1, 5) for to in pairs for back in pairs]
        self.assertGreater(met.count(True), 3)
        for step in (True, False, 2.0, "2", None):
            self.agrees(shows_film, is_right_film, (maps,), Leap(step, None, None))

    def test_films_that_leap(self):
        for words in (("deep", "meets"), ("deep", "deep"), ("deep", "rim", "rim"), ("deep", "rim", "deep")):
            maps = pair(*words)
            self.assertEqual(self.agrees(shows_film, is_right_film, (maps,), Film(maps)), words == ("deep", "rim", "deep"))

    def test_not_possible(self):
        for maps in ([BENT], [BENT, BENT]):
            for value in (Film(maps), Leap(0, None, None)):
                self.assertIs(shows_film(maps, value), False)

    def test_errors(self):
        for value in odd_values() + NO_MAPS + [FAR[0], [FAR[0], None]]:
            self.refused(BadMap("maps"), shows_film, value, None)
        self.refused(Misfit("lands"), shows_film, [FAR[0], BENT], None)
        self.assertIs(shows_film(value=film_of(FAR), maps=FAR), True)


def are_right_steps(film, value):
    """Whether a value tells a right way, world and what stays for each step."""
    steps = list(zip(film.maps, film.maps[1:]))
    if not isinstance(value, (list, tuple)) or len(value) != len(steps):
        return False
    for told, (one, other) in zip(value, steps):
        if not isinstance(told, (list, tuple)) or len(told) != 3 or told[0] != ("to" if is_near(one, other) else "from"):
            return False
        full, near = (one, other) if is_near(one, other) else (other, one)
        kept = told[2]
        if isinstance(kept, (list, tuple)):
            kept = tuple(tuple(stay) if isinstance(stay, list) else stay for stay in kept)
        rows = rows_kept(told[1], kept)
        if rows is None or map_of(told[1]) != full or map_of(World(rows)) != near:
            return False
    return True


class ShowsSteps(Agreeing):
    """shows_steps."""

    def test_some(self):
        chance = chances(532)
        for lands in ("a", "ab", "abc"):
            for _ in range(5):
                film = film_of(some_film(chance, lands, 4))
                right = step_worlds(film)
                self.assertIs(shows_steps(film, right), True)
                self.assertIs(shows_steps(film, list(as_lists(right))), True)
                for value in bent(right):
                    wanted = are_right_steps(film, value) and type(value) is tuple and all(
                        type(told[0]) is str for told in value)
                    self.assertIs(shows_steps(film, value), wanted, value)

    def test_other_worlds(self):
        film = film_of(pair("deep", "rim", "overlaps"))
        for first, second in itertools.product(
                ((World.read("b a+b b -"), [[0, 1, 3]]), (World.read("b a+b b -"), [[0, 1, 2, 3]]),
                 (World.read("a+b b -"), [[0, 2]]), (World.read("b a+b b / b -"), [[0, 1, 2], [0, 1]])),
                ((World.read("b a+b a -"), [[0, 1, 3]]), (World.read("b a+b a"), [[0, 2]]), (3, [[0]]))):
            value = [["to", *first], ["from", *second]]
            self.assertIs(shows_steps(film, value), are_right_steps(film, value), value)
        self.assertIs(shows_steps(film, [["to", World.read("b a+b b -"), [[0, 1, 3]]],
                                         ["from", World.read("b a+b a -"), [[0, 1, 3]]]]), True)
        self.assertIs(shows_steps(film, [["from", World.read("b a+b b -"), [[0, 1, 3]]],
                                         ["from", World.read("b a+b a -"), [[0, 1, 3]]]]), False)

    def test_a_world_of_another_map(self):
        """What is left has the right map, but the world itself has it, too."""
        film = film_of(pair("deep", "rim"))
        self.assertIs(shows_steps(film, [["to", World.read("b a+b -"), [[0, 1, 2]]]]), False)
        self.assertIs(shows_steps(film, [["to", World.read("b a+b b -"), [[0, 1, 3]]]]), True)

    def test_of_one_map(self):
        for value, wanted in (((), True), ([], True), (None, False), ([None], False), ({}, False), ("", False)):
            self.assertIs(shows_steps(value=value, film=film_of(FAR[:1])), wanted)

    def test_errors(self):
        for value in odd_values() + NO_FILMS:
            self.refused(BadPaper("film"), shows_steps, value, None)
        for value in WRONG_FILMS:
            self.refused(BadFilm("film"), shows_steps, value, None)
        six = film_of([Map(list("abcdef"), ["deep"] * 15)])
        self.refused(TooMany("lands", 5), shows_steps, six, ())


class ShowsShortest(Agreeing):
    """shows_shortest."""

    def test_some(self):
        chance = chances(533)
        for _ in range(40):
            lands = chance.choice(["ab", "abc"])
            stays = some_stays(chance, lands, 3)
            shore = Shore(lands, stays)
            if not shore.maps:
                continue
            one, other = some_maps(chance, shore, 2)
            paper = shortest(one, other, stays)
            for value in list(bent(paper))[:400] + [paper, type(paper)(list(paper.maps)), below(paper)] + odd_values():
                wanted = is_right_shortest(one, other, stays, value)
                self.assertIs(shows_shortest(one, other, value, stays), wanted)
            for film in shore.films(one.words, other.words):
                self.assertIs(shows_shortest(one, other, Film(shore.full(film)), stays), True)
            all_maps = NoFilm(shore.maps.values())
            self.assertIs(shows_shortest(one, other, all_maps, stays), False)

    def test_lots(self):
        """Any closed lot will do, also a greater one; each map left out, put in, or exchanged is looked at."""
        stays = book_by("apart|same|deep|rim|holdsdeep")
        full = {word: Map(["a", "b"], [word]) for word in EIGHT}
        met = []
        for many in range(6):
            for words in itertools.combinations(("apart", "same", "deep", "rim", "holdsdeep", "meets"), many):
                for rows in (words, words[::-1]):
                    value = NoFilm([full[word] for word in rows])
                    for one, other in (("apart", "deep"), ("deep", "apart"), ("rim", "same"), ("apart", "apart")):
                        wanted = is_right_shortest(full[one], full[other], stays, value)
                        self.assertIs(shows_shortest(full[one], full[other], value, stays), wanted)
                        met.append(wanted)
        self.assertGreater(met.count(True), 1)

    def test_maps_of_other_lands(self):
        """They have the same words, but are no maps of these lands."""
        one, other, stays = pair("deep", "apart") + [book_by("deep|apart")]
        self.assertIs(shows_shortest(one, other, NoFilm([one]), stays), True)
        away = one.renamed([("a", "c")])
        self.assertIs(shows_shortest(one, other, NoFilm([away]), stays), False)
        self.assertIs(shows_passes(one, other, book_by("meets"), Passes([away]), stays), False)
        self.assertIs(shows_passes(one, other, book_by("meets"), Passes([one]), stays), True)
        self.assertIs(shows_history([book_by("deep")], History(Film([away]), [0])), False)

    def test_longer_films(self):
        one, other = FAR[0], FAR[2]
        self.assertIs(shows_shortest(one, other, Film(pair("deep", "rim", "overlaps"))), True)
        self.assertIs(shows_shortest(one, other, Film(pair("deep", "same", "overlaps"))), True)
        self.assertIs(shows_shortest(one, other, Film(pair("deep", "rim", "same", "overlaps"))), False)
        self.assertIs(shows_shortest(one, other, Film(pair("deep", "overlaps"))), False)
        stays = book_by("deep|same|overlaps")
        self.assertIs(shows_shortest(one, other, Film(pair("deep", "rim", "overlaps")), stays), False)
        self.assertIs(shows_shortest(one, other, Film(pair("deep", "same", "overlaps")), stays), True)

    def test_not_possible(self):
        fine = Map(list("abc"), ["deep", "deep", "deep"])
        for one, other in ((fine, BAD), (BAD, fine), (BAD, BAD)):
            for value in (Film([one, other]), Film([BAD]), NoFilm(reached(fine)), NoFilm([BAD]), None):
                self.assertIs(shows_shortest(one, other, value), False)
                self.assertIs(shows_passes(one, other, Book(list("abc")), value), False)

    def test_errors(self):
        one, other = FAR[:2]
        for value in odd_values() + NO_MAPS:
            self.refused(BadMap("one"), shows_shortest, value, value, None, value)
            self.refused(BadMap("other"), shows_shortest, one, value, None, value)
        for value in odd_values() + NO_PLAIN:
            if value is not None:
                self.refused(BadBook("stays"), shows_shortest, one, BENT, None, value)
        self.refused(Misfit("lands"), shows_shortest, one, BENT, None)
        self.refused(TooMany("lands", 3), shows_shortest, BENT, BENT, None)
        self.refused(Misfit("stays"), shows_shortest, one, other, None, book_by("deep"))
        self.refused(Misfit("stays"), shows_shortest, BAD, BAD, None, Book.read("a b c : a meets b"))
        self.assertIs(shows_shortest(stays=None, value=Film(FAR[:2]), other=other, one=one), True)


class ShowsPasses(Agreeing):
    """shows_passes."""

    def test_some(self):
        chance = chances(534)
        met = []
        for _ in range(50):
            lands = chance.choice(["ab", "abc"])
            stays, book = some_stays(chance, lands, 2), some_stays(chance, lands, 2) or Book(list(lands))
            shore = Shore(lands, stays)
            if not shore.maps:
                continue
            one, other = some_maps(chance, shore, 2)
            paper = passes(one, other, book, stays)
            values = list(bent(paper))[:300] + [paper, type(paper)(list(paper.parts[0])) if type(paper) is Passes else paper]
            lots = [reached(full, stays) for full in some_maps(chance, shore, 2)]
            values += [Passes(lot) for lot in lots] + [Passes(lot[1:]) for lot in lots] + [Passes([])]
            values += [Avoids(film) for film in (shortest(one, other, stays), shortest(other, one, stays), Film([one]))]
            for value in values + [below(paper)] + odd_values():
                wanted = bool(is_right_passes(one, other, book, stays, value))
                met.append(wanted)
                self.assertIs(shows_passes(one, other, book, value, stays), wanted)
        self.assertGreater(met.count(True), 60)

    def test_lots_and_longer_films(self):
        full = {word: Map(["a", "b"], [word]) for word in EIGHT}
        book = book_by("overlaps|meets")
        lots = [words for many in range(6) for words in itertools.combinations(EIGHT, many)]
        met = []
        for one, other in (("apart", "deep"), ("deep", "apart"), ("overlaps", "deep"), ("same", "rim"), ("meets", "meets")):
            for words in lots:
                value = Passes([full[word] for word in words])
                wanted = is_right_passes(full[one], full[other], book, None, value)
                self.assertIs(shows_passes(full[one], full[other], book, value), wanted)
                met.append(wanted)
        self.assertGreater(met.count(True), 5)
        long = Avoids(film_of(pair("deep", "same", "rim", "same", "deep", "rim")))
        self.assertIs(shows_passes(full["deep"], full["rim"], book, long), True)
        self.assertIs(shows_passes(full["deep"], full["rim"], book_by("same"), long), False)

    def test_errors(self):
        one, other, book = FAR[0], FAR[1], book_by("meets")
        for value in odd_values() + NO_MAPS:
            self.refused(BadMap("one"), shows_passes, value, value, value, None, value)
            self.refused(BadMap("other"), shows_passes, one, value, value, None, value)
        for value in odd_values() + NO_PLAIN:
            self.refused(BadBook("book"), shows_passes, one, BENT, value, None, value)
            if value is not None:
                self.refused(BadBook("stays"), shows_passes, one, BENT, book, None, value)
        self.refused(Misfit("lands"), shows_passes, BENT, BENT, book, None)
        self.refused(TooMany("lands", 3), shows_passes, BENT, BENT, Book(list("abcd")), None)
        self.refused(Misfit("stays"), shows_passes, one, other, book, None, book_by("deep"))
        self.assertIs(shows_passes(one=one, other=one, book=book, stays=None, value=Avoids(Film([one]))), True)


class ShowsHistory(Agreeing):
    """shows_history."""

    def test_some(self):
        chance = chances(535)
        met = []
        for _ in range(60):
            lands = chance.choice(["a", "ab", "ab", "abc"])
            days = [some_stays(chance, lands, 2) or Book(list(lands)) for _ in range(chance.randint(1, 4))]
            stays = some_stays(chance, lands, 1)
            paper = history(days, stays)
            met.append(type(paper))
            values = list(bent(paper))[:300] + [paper, below(paper), type(paper)(*as_lists(paper.parts))] + odd_values()
            for value in values + [type(paper)(value, paper.parts[1]) for value in odd_values()]:
                wanted = bool(is_right_history(days, stays, value))
                self.assertIs(shows_history(days, value, stays), wanted, getattr(value, "parts", value))
        self.assertGreater(min(met.count(History), met.count(NoHistory)), 5)

    def test_each_film_and_index(self):
        days = [book_by(words) for words in ("deep|same", "rim|same", "same|overlaps")]
        met = []
        for many in (1, 2, 3):
            for words in itertools.product(("deep", "same", "rim", "overlaps"), repeat=many):
                for at in itertools.product(range(many), repeat=3):
                    value = History(Film(pair(*words)), at)
                    met.append(is_right_history(days, None, value))
                    self.assertIs(shows_history(days, value), met[-1])
        self.assertEqual(met.count(True), 1)
        there = [book_by(words) for words in ("overlaps", "same", "overlaps")]
        for at in itertools.product(range(3), repeat=3):
            value = History(Film(pair("overlaps", "same", "overlaps")), at)
            self.assertIs(shows_history(there, value), at == (0, 1, 2))
        days = days[:1] + [book_by("overlaps")]
        for words in itertools.product(EIGHT, repeat=2):
            for at in ((0, 1), (0, 0), (1, 1), (1, 0), (0, 2), (0,), (0, 1, 1)):
                value = History(Film(pair(*words)), at)
                self.assertIs(shows_history(days, value), bool(is_right_history(days, None, value)))

    def test_lots(self):
        stays = book_by("apart|meets|deep|same|holdsdeep")
        days = [book_by("deep|apart"), book_by("apart|meets"), book_by("same")]
        full = {word: Map(["a", "b"], [word]) for word in EIGHT}
        rows = [("apart", "meets"), ("same", "deep", "holdsdeep"), ("apart", "meets", "same", "deep", "holdsdeep"), (),
                ("meets", "apart"), ("apart",), ("apart", "meets", "rim")]
        rows = [[full[word] for word in row] for row in rows]
        met = []
        for day in range(-1, 4):
            for lots in [[]] + [[one] for one in rows] + [[one, other] for one in rows for other in rows]:
                value = NoHistory(day, lots)
                met.append(bool(is_right_history(days, stays, value)))
                self.assertIs(shows_history(days, value, stays), met[-1])
        self.assertGreater(met.count(True), 0)
        some = reached(full["apart"], stays)
        self.assertIs(shows_history(days[:2], NoHistory(2, [some, some]), stays), False)
        self.assertIs(shows_history(days[:2], NoHistory(3, [some, some, some]), stays), False)
        self.assertIs(shows_history(days, NoHistory(-1, []), stays), False)

    def test_errors(self):
        days = [book_by("deep"), book_by("rim")]
        for value in odd_values() + [[], (), days[0], days + [None]]:
            self.refused(BadBook("days"), shows_history, value, None, value)
        for value in odd_values() + NO_PLAIN:
            if value is not None:
                self.refused(BadBook("stays"), shows_history, days, None, value)
        self.refused(Misfit("lands"), shows_history, days, None, Book(["a"]))
        self.refused(TooMany("lands", 3), shows_history, [Book(list("abcd"))] * 7, None)
        self.refused(TooMany("days", 6), shows_history, days[:1] * 7, None)
        self.assertIs(shows_history(stays=None, value=history(days), days=tuple(days)), True)

    def test_films_of_others(self):
        """A film of maps of other lands, or of more than one reading, is none of these days."""
        days = [Book(["a"])]
        self.assertIs(shows_history(days, History(Film(FAR[:1]), [0])), False)
        self.assertIs(shows_history(days, History(Film([Map(["a"], [])]), [0])), True)
        self.assertTrue(is_film(FAR))
