"""The lines that a desk is told: which there are, and what their items stand for."""

from borderwords.checks import is_integer_text, is_name, item_at, require_end, text_items
from borderwords.errors import BadText
from borderwords.regions import region_from
from borderwords.sayings import saying_from
from borderwords.worlds import World, rows_from

DEEDS = ("book", "join", "tell", "strike", "mend", "least", "world", "beside", "vanish", "drop")
ASKS = ("names", "show", "possible", "rows", "sure", "words", "left", "next", "idle", "quarrels", "fits", "breaks",
        "look", "alike", "map", "limit", "leads", "film")
# What stands behind each first word. A new name, and the names of a book, of a world, of a thing of either kind,
# each stand for themselves; so do lands, ascending, and numbers, one or more to the end of the line.
SHAPES = {
    "book": ("new", "lands"),
    "join": ("new", "book", "book"),
    "tell": ("book", "saying"),
    "strike": ("book", "numbers"),
    "mend": ("book",),
    "least": ("book",),
    "world": ("new", "cells"),
    "beside": ("new", "world", "world"),
    "vanish": ("world", "number", "number", "number"),
    "drop": ("thing",),
    "names": (),
    "show": ("thing",),
    "possible": ("book",),
    "rows": ("book",),
    "sure": ("book", "saying"),
    "words": ("book", "region", "region"),
    "left": ("book",),
    "next": ("book",),
    "idle": ("book",),
    "quarrels": ("book",),
    "fits": ("book", "book"),
    "breaks": ("book", "world"),
    "look": ("world", "region", "region"),
    "alike": ("world", "world"),
    "map": ("world",),
    "limit": ("world", "world"),
    "leads": ("book", "book"),
    "film": ("book", "book"),
}


def read_line(line):
    """The first word of a line, and what its other items stand for, in their order."""
    items = text_items(line)
    if items[0] not in SHAPES:
        raise BadText(0, 0)
    values = [items[0]]
    at = 1
    for kind in SHAPES[items[0]]:
        told, at = told_from(kind, items, at)
        values.extend(told)
    require_end(items, at)
    return tuple(values)


def read_among(line, words):
    """As read_line, of a line with one of these first words."""
    items = text_items(line)
    if items[0] not in words:
        raise BadText(0, 0)
    return read_line(line)


def told_from(kind, items, at):
    """The list of the values of this kind that stand from this item on, and the place behind them."""
    if kind == "region":
        region, behind = region_from(items, at)
        return [region], behind
    if kind == "saying":
        saying, behind = saying_from(items, at)
        return [saying], behind
    if kind == "cells":
        return [World(rows_from(items, at))], len(items)
    if kind == "lands":
        return lands_to_end(items, at), len(items)
    if kind == "numbers":
        item_at(items, at)
        return [number_from(items, place) for place in range(at, len(items))], len(items)
    if kind == "number":
        return [number_from(items, at)], at + 1
    return [name_from(items, at)], at + 1


def name_from(items, at):
    """The name at this place."""
    item = item_at(items, at)
    if not is_name(item):
        raise BadText(0, at)
    return item


def number_from(items, at):
    """The integer from 0 on at this place."""
    item = item_at(items, at)
    if not is_integer_text(item) or item.startswith("-"):
        raise BadText(0, at)
    return int(item)


def lands_to_end(items, at):
    """The ascending names, one or more, from this place on to the end."""
    lands = [name_from(items, at)]
    for place in range(at + 1, len(items)):
        land = name_from(items, place)
        if land <= lands[-1]:
            raise BadText(0, place)
        lands.append(land)
    return lands


def numbers_text(numbers):
    """The numbers with single blanks between, `-` for none."""
    return " ".join([str(number) for number in numbers]) if len(numbers) > 0 else "-"
