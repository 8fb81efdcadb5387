"""The errors of the package. Each keeps what it is made with, as it is."""


class WordsError(ValueError):
    """The base of all errors of the package."""


class BadRegion(WordsError):
    """What is told as a region is none, or is too deep."""

    def __init__(self, part):
        self.part = part


class BadWorld(WordsError):
    """What is told as a world, a cell or a border is none."""

    def __init__(self, part):
        self.part = part


class BadSaying(WordsError):
    """What is told as a saying, or as a need, is none."""

    def __init__(self, part):
        self.part = part


class BadBook(WordsError):
    """What is told as a book is none, or none of the wanted kind."""

    def __init__(self, part):
        self.part = part


class BadMap(WordsError):
    """What is told as a map is none."""

    def __init__(self, part):
        self.part = part


class BadWord(WordsError):
    """What is told as a word, or as words, is none."""

    def __init__(self, part):
        self.part = part


class BadSize(WordsError):
    """What is told as a size saying, or as lengths, is none."""

    def __init__(self, part):
        self.part = part


class BadLimit(WordsError):
    """What is told does not stay, or is not let, on the way to a limit."""

    def __init__(self, part):
        self.part = part


class BadFilm(WordsError):
    """What is told as a film is not right."""

    def __init__(self, part):
        self.part = part


class BadNumber(WordsError):
    """What is told as an integer is none, or not within its bounds."""

    def __init__(self, part):
        self.part = part


class BadPaper(WordsError):
    """What is told as a paper is none of the wanted class."""

    def __init__(self, part):
        self.part = part


class BadDesk(WordsError):
    """What is told as a desk, or as what a desk keeps, is none."""

    def __init__(self, part):
        self.part = part


class Misfit(WordsError):
    """Two things that are right, each by itself, do not fit together."""

    def __init__(self, part):
        self.part = part


class Missing(WordsError):
    """A value that is none here; raised by the classes below alone."""

    def __init__(self, value):
        self.value = value


class NoLand(Missing):
    """A value that is no land of what is asked."""


class NoSaying(Missing):
    """A value that is the number of no saying."""


class NoName(Missing):
    """A value under which nothing is kept."""


class Twice(WordsError):
    """A value that stands there already."""

    def __init__(self, value):
        self.value = value


class Impossible(WordsError):
    """What is asked cannot be; the paper is a denial that shows it."""

    def __init__(self, paper):
        self.paper = paper


class TooMany(WordsError):
    """There are more of what is told than most."""

    def __init__(self, what, most):
        self.what = what
        self.most = most


class Nothing(WordsError):
    """There is nothing to take back, or to do again."""


class BadText(WordsError):
    """A text in which an item cannot stand; line is 0 where there is one alone."""

    def __init__(self, line, item):
        self.line = line
        self.item = item


class BadLine(WordsError):
    """A line of a desk, and the error that was raised there."""

    def __init__(self, line, error):
        self.line = line
        self.error = error
