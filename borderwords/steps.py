"""All maps of few lands that films may have, counted in their order, and the steps between them."""

from borderwords.books import Book
from borderwords.limits import BECOMES, words_before
from borderwords.maps import Map
from borderwords.threes import rows_kept, rows_of


class Ground:
    """The possible maps of at most three lands that keep a plain book, each told by its words and by its place."""

    def __init__(self, lands, stays):
        self.lands = lands
        self.rows = rows_kept(lands, Book(lands) if stays is None else stays)
        self.places = {words: place for place, words in enumerate(self.rows)}
        self.known = {}

    def place_of(self, full):
        """The place of a map of these lands, None if it is none of these maps."""
        return self.places.get(full.words)

    def maps_at(self, places):
        """The list of the maps at these places, in order."""
        return [Map(self.lands, self.rows[place]) for place in sorted(list(places))]

    def keeping(self, book):
        """A dict of the places of the maps that keep a plain book."""
        return {self.places[row]: True for row in rows_kept(self.lands, book) if row in self.places}

    def places_by(self, place):
        """The places of the maps that are steps from the one at this place, in order."""
        if place not in self.known:
            words = self.rows[place]
            rows = rows_of([BECOMES[word] for word in words]) + rows_of([words_before(word) for word in words])
            found = {self.places[row]: True for row in rows if row in self.places and row != words}
            self.known[place] = sorted(list(found))
        return self.known[place]

    def led_to(self, places, barred):
        """A dict of the places to which steps lead from these, which are not barred, by no barred one."""
        found = {place: True for place in places}
        row = list(found)
        at = 0
        while at < len(row):
            for its in self.places_by(row[at]):
                if its not in found and its not in barred:
                    found[its] = True
                    row.append(its)
            at = at + 1
        return found

    def steps_to(self, ends, barred):
        """For each place from which steps lead to an end, by no barred one, the fewest steps.

        The ends are a dict of places, none of them barred, each with the steps that are still to be taken there.
        """
        many = {}
        waiting = {}
        for place, left in ends.items():
            waiting.setdefault(left, []).append(place)
        steps = 0
        while len(waiting) > 0:
            row = waiting.pop(steps, [])
            steps = steps + 1
            for place in row:
                if place not in many:
                    many[place] = steps - 1
                    further = [its for its in self.places_by(place) if its not in many and its not in barred]
                    if len(further) > 0:
                        waiting[steps] = waiting.get(steps, []) + further
        return many

    def next_on(self, place, many):
        """The first place behind this one on a shortest way, by what steps_to gives."""
        return [its for its in self.places_by(place) if many.get(its) == many[place] - 1][0]
