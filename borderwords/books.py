"""Books: lands, and sayings of them."""

from borderwords.checks import (
    are_names, is_integer, is_list, is_within, item_at, lands_from, require_land, require_lands, require_unlike,
    text_items)
from borderwords.errors import BadBook, BadNumber, BadText, Misfit, NoSaying, TooMany, Twice
from borderwords.regions import Land
from borderwords.sayings import Says, require_saying, require_sayings, saying_from
from borderwords.worlds import require_world

MOST_LANDS = 5
MOST_SAYINGS = 10
MOST_CHOICES = 64


class Book:
    """Lands, one to five, and sayings of them, none to ten."""

    def __init__(self, lands, sayings=()):
        if not are_names(lands) or len(lands) == 0:
            raise BadBook("lands")
        require_sayings(sayings, "sayings")
        require_unlike(lands)
        for saying in sayings:
            require_lands(saying.lands, lands)
        if len(lands) > MOST_LANDS:
            raise TooMany("lands", MOST_LANDS)
        if len(sayings) > MOST_SAYINGS:
            raise TooMany("sayings", MOST_SAYINGS)
        self.lands = tuple(sorted(lands))
        self.sayings = tuple(sayings)
        self.is_plain = all([is_of_lands(saying) for saying in sayings])
        self.is_single = all([words_told(saying) == 1 for saying in sayings])
        self.choices = choices_of(sayings)
        if self.choices > MOST_CHOICES:
            raise TooMany("choices", MOST_CHOICES)

    def __len__(self):
        return len(self.sayings)

    def __eq__(self, other):
        return isinstance(other, Book) and self.lands == other.lands and self.sayings == other.sayings

    def __str__(self):
        told = " / ".join([str(saying) for saying in self.sayings])
        return " ".join([*self.lands, ":"] if told == "" else [*self.lands, ":", told])

    def choice(self, number):
        """The book of this choice: the same sayings, each Says with one word."""
        if not is_within(number, 0, self.choices - 1):
            raise BadNumber("number")
        left = number
        sayings = []
        # The word of the last Says changes fastest.
        for saying in reversed(self.sayings):
            left, place = divmod(left, words_told(saying))
            if isinstance(saying, Says):
                sayings.append(Says(saying.one, [saying.words[place]], saying.other))
            else:
                sayings.append(saying)
        return Book(self.lands, sayings[::-1])

    def with_saying(self, saying):
        """The book with this saying behind the others."""
        require_saying(saying, "saying")
        return Book(self.lands, self.sayings + (saying,))

    def without(self, numbers):
        """The book without the sayings of these numbers."""
        if not is_list(numbers) or not all([is_integer(number) for number in numbers]):
            raise BadNumber("numbers")
        for number in numbers:
            require_number(number, self)
        require_unlike(numbers)
        return Book(self.lands, [saying for at, saying in enumerate(self.sayings) if at not in numbers])

    def as_one(self, one, other):
        """The book without the land other, with the land one in its place in all sayings."""
        require_land(one, self.lands)
        require_land(other, self.lands)
        if one == other:
            raise Twice(other)
        lands = [land for land in self.lands if land != other]
        return Book(lands, [saying.with_land(other, one) for saying in self.sayings])

    def first_broken(self, world):
        """The number of the first saying that the world does not keep, None if it keeps all."""
        require_world(world, "world")
        if world.lands != self.lands:
            raise Misfit("lands")
        for number, saying in enumerate(self.sayings):
            if not saying.is_kept(world):
                return number
        return None

    @staticmethod
    def read(text):
        """The book whose text this is."""
        items = text_items(text)
        lands, at = lands_from(items, MOST_LANDS)
        return Book(lands, sayings_from(items, at, lands))


def is_of_lands(saying):
    """Whether a saying is a Says of two lands."""
    return isinstance(saying, Says) and isinstance(saying.one, Land) and isinstance(saying.other, Land)


def words_told(saying):
    """How many words a saying leaves to choose from: one way alone for a Nowhere."""
    return len(saying.words) if isinstance(saying, Says) else 1


def choices_of(sayings):
    """How many choices a book with these sayings has."""
    many = 1
    for saying in sayings:
        many = many * words_told(saying)
    return many


def require_book(value, part):
    """Raise BadBook for what is no book."""
    if not isinstance(value, Book):
        raise BadBook(part)


def require_single(value, part):
    """Raise BadBook for what is no book of one word."""
    require_book(value, part)
    if not value.is_single:
        raise BadBook(part)


def require_plain_single(value, part):
    """Raise BadBook for what is no plain book of one word."""
    require_single(value, part)
    if not value.is_plain:
        raise BadBook(part)


def require_number(value, book):
    """Raise NoSaying for what is the number of no saying of the book."""
    if not is_within(value, 0, len(book.sayings) - 1):
        raise NoSaying(value)


def book_of(book, lot):
    """The book with all lands of a book, and with just the sayings of a lot of it."""
    return Book(book.lands, [book.sayings[number] for number in lot])


def sayings_from(items, at, lands):
    """The sayings of a book with these lands that stand from this item on to the end."""
    sayings = []
    place = at
    while place < len(items):
        if len(sayings) > 0:
            place = behind_slash(items, place, len(sayings))
        saying, place = saying_from(items, place, lands, MOST_CHOICES // choices_of(sayings))
        sayings.append(saying)
    return sayings


def behind_slash(items, at, many):
    """The place behind the slash that has to stand here, behind so many sayings."""
    if item_at(items, at) != "/" or many == MOST_SAYINGS:
        raise BadText(0, at)
    return at + 1
