"""What is true of plain values: words, integers, names, cells, borders, the items of texts."""

from borderwords.errors import BadText, BadWord, BadWorld, NoLand, Twice
from borderwords.papers import fixed

WORDS = ("apart", "meets", "overlaps", "same", "deep", "rim", "holdsdeep", "holdsrim")
TURNED = {"deep": "holdsdeep", "holdsdeep": "deep", "rim": "holdsrim", "holdsrim": "rim"}
DIGITS = "0123456789"
MOST_SIGNS = 12
MOST_DIGITS = 60


def is_word(value):
    """Whether any value is one of the eight words."""
    return isinstance(value, str) and value in WORDS


def turned_word(word):
    """The word of y to x if this is the word of x to y."""
    if not is_word(word):
        raise BadWord("word")
    return TURNED.get(word, word)


def require_word(value, part):
    """Raise BadWord for what is none of the eight words."""
    if not is_word(value):
        raise BadWord(part)


def is_integer(value):
    """Whether any value is an integer; True and False are none."""
    return isinstance(value, int) and not isinstance(value, bool)


def is_within(value, least, most):
    """Whether any value is an integer from least to most; None is no bound."""
    return is_integer(value) and (least is None or value >= least) and (most is None or value <= most)


def is_name(value):
    """Whether any value is a name."""
    if not isinstance(value, str) or not 1 <= len(value) <= MOST_SIGNS:
        return False
    return value.isascii() and value.isalnum() and value == value.lower() and not value[0].isdigit()


def is_list(value):
    """Whether any value is a list, for which a tuple may stand."""
    return isinstance(value, (list, tuple))


def are_names(value):
    """Whether any value is a list of names, in any order, perhaps with some twice."""
    return is_list(value) and all([is_name(name) for name in value])


def are_name_pairs(value):
    """Whether any value is a list of pairs of names."""
    return is_list(value) and all([are_names(pair) and len(pair) == 2 for pair in value])


def are_words(value):
    """Whether any value is a list of words, in any order, perhaps with some twice."""
    return is_list(value) and all([is_word(word) for word in value])


def is_cell(value):
    """Whether any value is a list of names, ascending, none twice."""
    if not are_names(value):
        return False
    return all([value[at] < value[at + 1] for at in range(len(value) - 1)])


def first_twice(values):
    """The first of the values that equals one ahead of it, None if there is none."""
    seen = set()
    for value in fixed(values):
        if value in seen:
            return value
        seen.add(value)
    return None


def require_unlike(values):
    """Raise Twice for the first of the values that equals one ahead of it."""
    again = first_twice(values)
    if again is not None:
        raise Twice(again)


def pairs_of(values):
    """The tuple of the pairs of each value with each one behind it, in order."""
    return tuple([(values[at], values[behind])
                  for at in range(len(values)) for behind in range(at + 1, len(values))])


def rows_of(choices):
    """All rows that have at each place one of those told for it, in order."""
    rows = [()]
    for choice in choices:
        rows = [row + (one,) for row in rows for one in choice]
    return rows


def cell_key(cell):
    """What cells are ordered by."""
    return (len(cell), tuple(cell))


def cell_text(cell):
    """The text of a cell: its names, `-` if it has none."""
    if len(cell) == 0:
        return "-"
    return "+".join(cell)


def border_of(one, other):
    """The border of two cells, the first one not behind the second one."""
    if cell_key(other) < cell_key(one):
        return (tuple(other), tuple(one))
    return (tuple(one), tuple(other))


def border_key(border):
    """What borders are ordered by."""
    return (cell_key(border[0]), cell_key(border[1]))


def require_cell(value, part):
    """The cell as a tuple; BadWorld for what is none."""
    if not is_cell(value):
        raise BadWorld(part)
    return tuple(value)


def require_land(value, lands):
    """Raise NoLand for what is none of these lands."""
    if not isinstance(value, str) or value not in lands:
        raise NoLand(value)


def require_lands(values, lands):
    """Raise NoLand for the first value that is none of these lands."""
    for value in values:
        require_land(value, lands)


def require_two_cells(value, part):
    """The two cells of a border, as passed; BadWorld for what is no pair of cells."""
    if not is_list(value) or len(value) != 2 or not all([is_cell(cell) for cell in value]):
        raise BadWorld(part)
    return tuple(value[0]), tuple(value[1])


def require_border(value, part, lands):
    """The border of these lands; BadWorld for what is none, NoLand for a land that is none of them."""
    one, other = require_two_cells(value, part)
    require_lands(one, lands)
    require_lands(other, lands)
    return border_of(one, other)


def new_names(lands, pairs):
    """A dict of the new names of these lands, by a list of pairs of a land and its new name."""
    old = [pair[0] for pair in pairs]
    require_lands(old, lands)
    require_unlike(old)
    names = {land: land for land in lands}
    for land, name in pairs:
        names[land] = name
    require_unlike([names[land] for land in lands])
    return names


def is_integer_text(item):
    """Whether an item of a text is an integer as texts have it."""
    digits = item[1:] if item.startswith("-") else item
    if not 1 <= len(digits) <= MOST_DIGITS or not all([sign in DIGITS for sign in digits]):
        return False
    return digits[0] != "0" or item == "0"


def text_items(text):
    """The items of a text; BadText for what is no string."""
    if not isinstance(text, str):
        raise BadText(0, 0)
    return text.split(" ")


def item_at(items, at):
    """The item at this place; BadText if it is missing."""
    if at >= len(items):
        raise BadText(0, at)
    return items[at]


def require_end(items, at):
    """Raise BadText if an item stands here, where the text must end."""
    if at < len(items):
        raise BadText(0, at)


def lands_from(items, most):
    """The ascending lands with which a text begins, and the place behind their colon."""
    lands = []
    while len(lands) == 0 or item_at(items, len(lands)) != ":":
        at = len(lands)
        item = item_at(items, at)
        if not is_name(item) or at == most or (at > 0 and item <= lands[-1]):
            raise BadText(0, at)
        lands.append(item)
    return lands, len(lands) + 1
