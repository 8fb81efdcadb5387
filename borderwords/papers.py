"""Papers: answers, each with what shows it."""


def fixed(value):
    """The value with each list in it as a tuple, through lists and tuples."""
    if isinstance(value, (list, tuple)):
        return tuple([fixed(part) for part in value])
    return value


class Paper:
    """An answer: a word, and parts that show it. Every paper that is no denial is true."""

    def __init__(self, word, *parts):
        self.word = word
        self.parts = fixed(parts)

    def __eq__(self, other):
        return (isinstance(other, Paper) and self.__class__.__name__ == other.__class__.__name__
                and self.word == other.word and self.parts == other.parts)


class Denial(Paper):
    """A paper that says no. It is false."""

    def __init__(self, word, *parts):
        super().__init__(word, *parts)

    def __bool__(self):
        return False

    def __eq__(self, other):
        return (isinstance(other, Denial) and self.__class__.__name__ == other.__class__.__name__
                and self.word == other.word and self.parts == other.parts)


def is_own(value, name):
    """Whether any value was made by calling the class of papers of this name, and not one below it.

    That it is a value of this class at all is asked by isinstance, which takes the classes below, too.
    """
    return isinstance(value, Paper) and value.__class__.__name__ == name


def is_just(value, wanted):
    """Whether any value is this one, which is made of tuples, strings, integers and None.

    Lists stand for tuples. Python takes True for 1, and 1.0 too; a paper must not.
    """
    if isinstance(wanted, tuple):
        return isinstance(value, (list, tuple)) and len(value) == len(wanted) and are_just(value, wanted)
    if isinstance(wanted, str):
        return isinstance(value, str) and value == wanted
    if wanted is None:
        return value is None
    return isinstance(value, int) and not isinstance(value, bool) and value == wanted


def are_just(values, wanted):
    """Whether each of the values is just the one of wanted at its place."""
    for value, just in zip(values, wanted):
        if not is_just(value, just):
            return False
    return True


def is_among(value, wanted):
    """Whether any value is just one of these."""
    return any([is_just(value, one) for one in wanted])
