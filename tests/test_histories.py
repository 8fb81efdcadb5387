"""Histories of days."""

from borderwords.books import Book
from borderwords.errors import BadBook, Misfit, TooMany
from borderwords.films import Film, film_of
from borderwords.histories import History, NoHistory, history
from borderwords.papers import Denial, Paper
from tests.filming import Shore, book_by, done, is_right_history, keeps, shortest_history, some_stays
from tests.support import Case, chances, odd_values
from tests.test_bars import NO_PLAIN


def days_of(*rows):
    """Days of a and b with these words each."""
    return [book_by(words) for words in rows]


def first_films(days, stays):
    """All films with fewest maps that serve the days, as words, in order."""
    shore = Shore(days[0].lands, stays)
    order = list(shore.maps)
    rows = [((words,), done(shore.maps[words], days, 0)) for words in order]
    for _ in range(40):
        found = [row for row, served in rows if served == len(days)]
        if found or not rows:
            return sorted(found, key=lambda row: [order.index(words) for words in row])
        best = {}
        # Of films that end alike and serve as many days only the first one can begin the first one.
        for row, served in rows:
            for its in shore.steps[row[-1]]:
                further = (row + (its,), done(shore.maps[its], days, served))
                key = (its, further[1])
                if key not in best or [order.index(w) for w in further[0]] < [order.index(w) for w in best[key][0]]:
                    best[key] = further
        rows = list(best.values())
    return []


class Histories(Case):
    """history."""

    def told_right(self, days, stays=None):
        found = history(days, stays)
        self.assertTrue(is_right_history(days, stays, found), found.parts)
        self.assertEqual(history(days=tuple(days), stays=stays), found)
        if type(found) is History:
            first = first_films(days, stays)[0]
            shore = Shore(days[0].lands, stays)
            self.assertEqual(found.film, film_of(shore.full(first)))
            at, places = 0, []
            for day in days:
                while not keeps(found.film.maps[at], day):
                    at += 1
                places.append(at)
            self.assertEqual(found.at, tuple(places))
            self.assertTrue(found)
            return History
        self.assertEqual(shortest_history(days, stays), None)
        shore = Shore(days[0].lands, stays)
        lots = []
        for number, day in enumerate(days):
            here = [words for words, full in shore.maps.items() if keeps(full, day) and (not lots or words in lots[-1])]
            if not here:
                self.assertEqual(found, NoHistory(number, [shore.full(lot) for lot in lots]))
                break
            lots.append(shore.reached(here))
        self.assertFalse(found)
        return NoHistory

    def test_two_lands(self):
        chance = chances(521)
        met = []
        for _ in range(120):
            days = [some_stays(chance, "ab", 2) or Book(["a", "b"]) for _ in range(chance.randint(1, 6))]
            met.append(self.told_right(days, some_stays(chance, "ab", 1)))
        self.assertGreater(min(met.count(History), met.count(NoHistory)), 20)

    def test_three_lands(self):
        chance = chances(522)
        met = []
        for _ in range(40):
            days = [some_stays(chance, "abc", 3) or Book(list("abc")) for _ in range(chance.randint(1, 5))]
            met.append(self.told_right(days, some_stays(chance, "abc", 2)))
        self.assertGreater(min(met.count(History), met.count(NoHistory)), 4)

    def test_edges(self):
        self.assertEqual(history(days_of("deep")).parts, (film_of([Shore("ab").maps[("deep",)]]), (0,)))
        self.assertEqual(history(days_of(*["deep|rim"] * 6)).at, (0,) * 6)
        self.told_right(days_of("deep", "apart", "deep", "apart", "deep", "apart"))
        self.told_right(days_of("deep", "rim|overlaps", "overlaps", "apart|meets"))
        self.told_right(days_of("apart|deep", "same"))
        self.told_right([Book(["a"])] * 3)
        self.told_right([Book(["a"]), Book.read("a : a deep a")])
        self.told_right([Book.read("a b : a deep b / b deep a")])
        self.told_right(days_of("deep", "apart"), Book.read("a b : a deep b / b deep a"))
        self.assertEqual(self.told_right(days_of("deep", "apart"), days_of("same|deep|rim")[0]), NoHistory)
        self.assertEqual(self.told_right(days_of("deep", "apart", "same"), days_of("meets|same|overlaps|apart|deep|rim")[0]),
                         History)

    def test_a_day_at_which_there_is_none(self):
        stays = days_of("apart|meets|deep|same")[0]
        self.assertEqual(history(days_of("apart", "meets", "meets", "deep"), stays).day, 3)
        self.assertEqual(history(days_of("apart|deep", "same", "meets"), stays).day, 2)
        self.assertEqual([len(lot) for lot in history(days_of("apart|deep", "same", "meets"), stays).lots], [4, 2])
        self.assertEqual(history(days_of("rim"), stays).parts, (0, ()))

    def test_errors(self):
        days = days_of("deep", "rim")
        four = Book(list("abcd"))
        for value in odd_values() + [(), [], days[0], [days], ["a b : a deep b"], {0: days[0]}, days + [None]]:
            self.refused(BadBook("days"), history, value, value)
        for value in NO_PLAIN:
            self.refused(BadBook("days"), history, days + [value], None)
            self.refused(BadBook("days"), history, [value] + days, value)
            self.refused(BadBook("stays"), history, days + [four], value)
        for value in odd_values():
            if value is not None:
                self.refused(BadBook("stays"), history, days, value)
        self.refused(Misfit("lands"), history, days + [four])
        self.refused(Misfit("lands"), history, [four] * 7, days[0])
        self.refused(TooMany("lands", 3), history, [four] * 7)
        self.refused(TooMany("days", 6), history, days[:1] * 7)
        self.refused(TooMany("days", 6), history, days[:1] * 7, Book.read("a b : a deep b / a rim b"))

    def test_papers(self):
        told, none = History(film=1, at=[0, 0]), NoHistory(day=1, lots=[[2]])
        self.assertEqual((told.word, told.parts, told.film, told.at), ("history", (1, (0, 0)), 1, (0, 0)))
        self.assertEqual((none.word, none.parts, none.day, none.lots), ("nohistory", (1, ((2,),)), 1, ((2,),)))
        self.assertTrue(told and not none and isinstance(none, Denial) and isinstance(told, Paper))
        self.assertNotIsInstance(told, Denial)
        self.assertNotEqual(told, Film(1))
