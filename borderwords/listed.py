"""All maps that worlds have which keep a book of few lands."""

from borderwords.books import require_book
from borderwords.checks import pairs_of
from borderwords.errors import TooMany
from borderwords.fields import is_possible_with, word_table
from borderwords.maps import Map
from borderwords.readings import read_book
from borderwords.regions import Land
from borderwords.threes import is_three, rows_kept

MOST_LANDS = 3


def maps_left(book):
    """The tuple of all maps that worlds which keep the book have, in order."""
    require_few_lands_told(book)
    return tuple([Map(book.lands, words) for words in rows_left(book)])


def require_few_lands_told(book):
    """Raise what maps_left raises."""
    require_book(book, "book")
    if len(book.lands) > MOST_LANDS:
        raise TooMany("lands", MOST_LANDS)


def rows_left(book):
    """The words of each of the maps that maps_left lists, in order."""
    # A world keeps a plain book exactly if its map does.
    if book.is_plain:
        return rows_kept(book.lands, book)
    told = read_book(book)
    states = [((), told.possible_choices())]
    for one, other in pairs_of(book.lands):
        table = word_table(told.field, Land(one), Land(other))
        states = [state for row, choices in states for state in states_behind(row, choices, table)]
    return [row for row, choices in states if len(choices) > 0]


def states_behind(row, choices, table):
    """The words of the next two lands behind those told so far, each with the choices that are possible with them."""
    found = []
    for word, told in table.items():
        if len(row) < 2 or is_three(row[0], word, row[1]):
            barred, wanted = told
            left = [(let & ~barred, its + wanted) for let, its in choices if is_possible_with((let, its), [told])]
            if len(left) > 0:
                found.append((row + (word,), left))
    return found
