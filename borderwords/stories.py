"""Stories of desks: told again, held against one another, merged."""

from borderwords.checks import is_list
from borderwords.desk import Desk, require_desk
from borderwords.errors import BadDesk, BadLine, WordsError


def replay(lines):
    """A new desk that is told these deed lines."""
    if not is_list(lines) or not all([isinstance(line, str) for line in lines]):
        raise BadDesk("lines")
    desk = Desk()
    for index, line in enumerate(lines):
        try:
            desk.done(line)
        except WordsError as error:
            raise BadLine(index, error) from error
    return desk


def parting(one, other):
    """How many lines the stories of two desks begin with alike."""
    require_desk(one, "one")
    require_desk(other, "other")
    many = 0
    for line, its in zip(one.story, other.story):
        if line != its:
            break
        many = many + 1
    return many


def merged(one, other):
    """A new desk with the story of one and what it takes of the rest of other's; and the numbers of the others."""
    many = parting(one, other)
    desk = replay(one.story)
    refused = []
    for index, line in enumerate(other.story):
        if index >= many:
            try:
                desk.done(line)
            except WordsError:
                refused.append(index)
    return desk, tuple(refused)
