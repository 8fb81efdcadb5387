"""Sayings: what is told of two regions, or of one that lies nowhere."""

from borderwords.checks import (
    WORDS, are_words, is_list, item_at, require_end, require_lands, require_unlike, text_items, turned_word)
from borderwords.errors import BadSaying, BadText, BadWord
from borderwords.looks import lies_here, word_here
from borderwords.regions import lands_of, region_from, require_region
from borderwords.worlds import require_world

MOST_WORDS = 7


class Saying:
    """The class above all sayings."""

    def is_kept(self, world):
        """Whether the world, which has its lands, keeps it."""
        raise NotImplementedError("a saying is a Says or a Nowhere")

    def turned(self):
        """The same told the other way about."""
        raise NotImplementedError("a saying is a Says or a Nowhere")

    @staticmethod
    def read(text):
        """The saying whose text this is."""
        items = text_items(text)
        saying, behind = saying_from(items, 0)
        require_end(items, behind)
        return saying


class Says(Saying):
    """Two regions, and one to seven words, one of which holds of one to other."""

    def __init__(self, one, words, other):
        require_region(one, "one")
        require_region(other, "other")
        if not are_words(words) or not 1 <= len(words) <= MOST_WORDS:
            raise BadWord("words")
        require_unlike(words)
        self.one = one
        self.words = tuple([word for word in WORDS if word in words])
        self.other = other
        self.lands = lands_of([one, other])

    def is_kept(self, world):
        """Whether the world, which has its lands, keeps it."""
        require_world(world, "world")
        require_lands(self.lands, world.lands)
        return word_here(world, self.one, self.other) in self.words

    def turned(self):
        """The same told of other to one."""
        return Says(self.other, [turned_word(word) for word in self.words], self.one)

    def with_land(self, old, new):
        """The same saying with one land put in for another one."""
        return Says(self.one.with_land(old, new), self.words, self.other.with_land(old, new))

    def __eq__(self, other):
        return (isinstance(other, Says) and self.one == other.one and self.words == other.words
                and self.other == other.other)

    def __str__(self):
        return " ".join([str(self.one), "|".join(self.words), str(self.other)])


class Nowhere(Saying):
    """A region that lies over no cell."""

    def __init__(self, region):
        require_region(region, "region")
        self.region = region
        self.lands = region.lands

    def is_kept(self, world):
        """Whether the world, which has its lands, keeps it."""
        require_world(world, "world")
        require_lands(self.lands, world.lands)
        return not lies_here(world, self.region)

    def turned(self):
        """The saying itself, which tells of one region alone."""
        return self

    def with_land(self, old, new):
        """The same saying with one land put in for another one."""
        return Nowhere(self.region.with_land(old, new))

    def __eq__(self, other):
        return isinstance(other, Nowhere) and self.region == other.region

    def __str__(self):
        return f"! {self.region}"


def is_saying(value):
    """Whether any value is a saying."""
    return isinstance(value, (Says, Nowhere))


def require_saying(value, part):
    """Raise BadSaying for what is no saying."""
    if not is_saying(value):
        raise BadSaying(part)


def require_sayings(values, part):
    """Raise BadSaying for what is no list of sayings."""
    if not is_list(values) or not all([is_saying(value) for value in values]):
        raise BadSaying(part)


def saying_from(items, at, lands=None, most=MOST_WORDS):
    """The saying of these lands, with at most so many words, that begins here, and the place behind it."""
    if item_at(items, at) == "!":
        region, behind = region_from(items, at + 1, lands)
        return Nowhere(region), behind
    one, behind = region_from(items, at, lands)
    words = words_from(items, behind, most)
    other, behind = region_from(items, behind + 1, lands)
    return Says(one, words, other), behind


def words_from(items, at, most):
    """The words that the item at this place tells, in their order, at most so many."""
    words = item_at(items, at).split("|")
    if len(words) > min(most, MOST_WORDS) or words != [word for word in WORDS if word in words]:
        raise BadText(0, at)
    return words
