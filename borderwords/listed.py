"""All maps that worlds have which keep a book of few lands."""

from borderwords.books import require_book
from borderwords.checks import WORDS, pairs_of
from borderwords.errors import TooMany
from borderwords.fields import book_bits, field_of, is_possible_with, word_table
from borderwords.maps import Map

MOST_LANDS = 3


def maps_left(book):
    """The tuple of all maps that worlds which keep the book have, in order."""
    require_book(book, "book")
    if len(book.lands) > MOST_LANDS:
        raise TooMany("lands", MOST_LANDS)
    field = field_of(book.lands)
    choices = choices_told(field, book)
    tables = [word_table(field, one, other) for one, other in pairs_of(book.lands)]
    found = []
    for words in word_rows(len(tables)):
        more = [table[word] for table, word in zip(tables, words)]
        if is_left(choices, more):
            found.append(Map(book.lands, words))
    return tuple(found)


def choices_told(field, book):
    """The choices of the book that are possible, each told as by book_bits."""
    choices = [book_bits(field, book.choice(number)) for number in range(book.choices)]
    # Choices that are not possible would be asked again for each further saying.
    return [told for told in choices if is_possible_with(told, [])]


def word_rows(many):
    """All rows of so many words, in order."""
    rows = [()]
    for _ in range(many):
        rows = [row + (word,) for row in rows for word in WORDS]
    return rows


def is_left(choices, more):
    """Whether one of the choices, told as by book_bits, is possible with these further sayings."""
    for told in choices:
        if is_possible_with(told, more):
            return True
    return False
