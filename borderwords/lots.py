"""Lots: ascending tuples of numbers, perhaps of none."""

from itertools import combinations

from borderwords.checks import is_list, is_within


def lots_of(many):
    """All lots of the numbers below this one: those with fewer numbers first, equally many as tuples compare."""
    numbers = list(range(many))
    return [lot for size in range(many + 1) for lot in combinations(numbers, size)]


def lots_with(many, size):
    """The lots of so many of the numbers below this one, as tuples compare."""
    numbers = list(range(many))
    return list(combinations(numbers, size))


def is_lot(value, many):
    """Whether any value is a lot of the numbers below this one."""
    if not is_list(value) or not all([is_within(number, 0, many - 1) for number in value]):
        return False
    return all([value[at] < value[at + 1] for at in range(len(value) - 1)])


def has_lot(lot, lots):
    """Whether a lot has all numbers of one of these lots."""
    return any([all([number in lot for number in other]) for other in lots])


def strikes_all(lot, lots):
    """Whether a lot has a number of each of these lots."""
    return all([any([number in lot for number in other]) for other in lots])
