"""Which words three lands can have together, as a table.

The table is told, not worked out: films and lists of maps ask it many thousand times. The tests hold each
row against what worlds show.
"""

from borderwords.checks import WORDS, pairs_of, rows_of, turned_word

BY_THIRD = {
    ("apart", "apart"): ("apart", "meets", "overlaps", "same", "deep", "rim", "holdsdeep", "holdsrim"),
    ("apart", "meets"): ("apart", "meets", "overlaps", "deep", "rim"),
    ("apart", "overlaps"): ("apart", "meets", "overlaps", "deep", "rim"),
    ("apart", "same"): ("apart",),
    ("apart", "deep"): ("apart", "meets", "overlaps", "deep", "rim"),
    ("apart", "rim"): ("apart", "meets", "overlaps", "deep", "rim"),
    ("apart", "holdsdeep"): ("apart",),
    ("apart", "holdsrim"): ("apart",),
    ("meets", "apart"): ("apart", "meets", "overlaps", "holdsdeep", "holdsrim"),
    ("meets", "meets"): ("apart", "meets", "overlaps", "same", "rim", "holdsrim"),
    ("meets", "overlaps"): ("apart", "meets", "overlaps", "deep", "rim"),
    ("meets", "same"): ("meets",),
    ("meets", "deep"): ("overlaps", "deep", "rim"),
    ("meets", "rim"): ("meets", "overlaps", "deep", "rim"),
    ("meets", "holdsdeep"): ("apart",),
    ("meets", "holdsrim"): ("apart", "meets"),
    ("overlaps", "apart"): ("apart", "meets", "overlaps", "holdsdeep", "holdsrim"),
    ("overlaps", "meets"): ("apart", "meets", "overlaps", "holdsdeep", "holdsrim"),
    ("overlaps", "overlaps"): ("apart", "meets", "overlaps", "same", "deep", "rim", "holdsdeep", "holdsrim"),
    ("overlaps", "same"): ("overlaps",),
    ("overlaps", "deep"): ("overlaps", "deep", "rim"),
    ("overlaps", "rim"): ("overlaps", "deep", "rim"),
    ("overlaps", "holdsdeep"): ("apart", "meets", "overlaps", "holdsdeep", "holdsrim"),
    ("overlaps", "holdsrim"): ("apart", "meets", "overlaps", "holdsdeep", "holdsrim"),
    ("same", "apart"): ("apart",),
    ("same", "meets"): ("meets",),
    ("same", "overlaps"): ("overlaps",),
    ("same", "same"): ("same",),
    ("same", "deep"): ("deep",),
    ("same", "rim"): ("rim",),
    ("same", "holdsdeep"): ("holdsdeep",),
    ("same", "holdsrim"): ("holdsrim",),
    ("deep", "apart"): ("apart",),
    ("deep", "meets"): ("apart",),
    ("deep", "overlaps"): ("apart", "meets", "overlaps", "deep", "rim"),
    ("deep", "same"): ("deep",),
    ("deep", "deep"): ("deep",),
    ("deep", "rim"): ("deep",),
    ("deep", "holdsdeep"): ("apart", "meets", "overlaps", "same", "deep", "rim", "holdsdeep", "holdsrim"),
    ("deep", "holdsrim"): ("apart", "meets", "overlaps", "deep", "rim"),
    ("rim", "apart"): ("apart",),
    ("rim", "meets"): ("apart", "meets"),
    ("rim", "overlaps"): ("apart", "meets", "overlaps", "deep", "rim"),
    ("rim", "same"): ("rim",),
    ("rim", "deep"): ("deep",),
    ("rim", "rim"): ("deep", "rim"),
    ("rim", "holdsdeep"): ("apart", "meets", "overlaps", "holdsdeep", "holdsrim"),
    ("rim", "holdsrim"): ("apart", "meets", "overlaps", "same", "rim", "holdsrim"),
    ("holdsdeep", "apart"): ("apart", "meets", "overlaps", "holdsdeep", "holdsrim"),
    ("holdsdeep", "meets"): ("overlaps", "holdsdeep", "holdsrim"),
    ("holdsdeep", "overlaps"): ("overlaps", "holdsdeep", "holdsrim"),
    ("holdsdeep", "same"): ("holdsdeep",),
    ("holdsdeep", "deep"): ("overlaps", "same", "deep", "rim", "holdsdeep", "holdsrim"),
    ("holdsdeep", "rim"): ("overlaps", "holdsdeep", "holdsrim"),
    ("holdsdeep", "holdsdeep"): ("holdsdeep",),
    ("holdsdeep", "holdsrim"): ("holdsdeep",),
    ("holdsrim", "apart"): ("apart", "meets", "overlaps", "holdsdeep", "holdsrim"),
    ("holdsrim", "meets"): ("meets", "overlaps", "holdsdeep", "holdsrim"),
    ("holdsrim", "overlaps"): ("overlaps", "holdsdeep", "holdsrim"),
    ("holdsrim", "same"): ("holdsrim",),
    ("holdsrim", "deep"): ("overlaps", "deep", "rim"),
    ("holdsrim", "rim"): ("overlaps", "same", "rim", "holdsrim"),
    ("holdsrim", "holdsdeep"): ("holdsdeep",),
    ("holdsrim", "holdsrim"): ("holdsdeep", "holdsrim"),
}


def is_three(word, its, third):
    """Whether some world has these words of x to y, of y to z, of x to z."""
    return third in BY_THIRD[word, its]


def possible_rows(choices):
    """The words of all possible maps of at most three lands, in order, that have for each two lands one of these."""
    rows = rows_of(choices)
    if len(choices) < 3:
        return rows
    return [row for row in rows if is_three(row[0], row[2], row[1])]


def words_kept(lands, book):
    """For each two of these lands, in order, the words by which a map keeps a plain book; None if no map keeps it."""
    choices = {pair: WORDS for pair in pairs_of(lands)}
    for saying in book.sayings:
        one, other = saying.one.name, saying.other.name
        if one == other and "same" not in saying.words:
            return None
        if (one, other) in choices:
            choices[one, other] = [word for word in choices[one, other] if word in saying.words]
        elif one != other:
            choices[other, one] = [word for word in choices[other, one] if turned_word(word) in saying.words]
    return list(choices.values())


def rows_kept(lands, book):
    """The words of all possible maps of these lands, at most three, that keep a plain book, in order."""
    choices = words_kept(lands, book)
    return [] if choices is None else possible_rows(choices)
