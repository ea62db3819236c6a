"""Stage 6: doors, and the questions that are asked at them."""

from doorslips.errors import UnknownKind
from doorslips.pairs import makes, pairs, ways
from doorslips.uses import is_goer


def doors(house):
    """Return the ascending tuple of all doors."""
    made = makes(house)
    return tuple(sorted(ways([house[1]], lambda door: [(kind, newer[door]) for kind, newer in enumerate(made)])))


def questions(house, use, kind, door):
    """Return the ascending tuple of the questions of a goer at a door; raise UnknownKind unless it is a goer."""
    require_goer(use, kind)
    rests = [rest for first, rest in pairs(house, use) if first == door]
    return tuple(sorted(_question_ways(makes(house), use, kind, rests)))


def asked(house, use, kind):
    """Return a dict, ascending by the doors: from each door to the ways to all questions of a goer at it.

    The ways lead by later kinds; each one starts where nobody came later.
    """
    made = makes(house)
    rests = {}
    for first, rest in pairs(house, use):
        rests.setdefault(first, []).append(rest)
    return {door: _question_ways(made, use, kind, rests[door]) for door in rests}


def next_questions(made, use, question):
    """Return what is told with a question: a list of (later kind, question)."""
    order, goers = use
    present, wanted = question
    return [
        (later, (newer[present], newer[wanted])) for later, newer in enumerate(made)
        if order != "newest" or later not in goers
    ]


def require_goer(use, kind):
    """Raise UnknownKind unless a value is a goer of the use."""
    if not is_goer(use, kind):
        raise UnknownKind(kind)


def _question_ways(made, use, kind, rests):
    """Return the ways to all questions at a door, by what the rests make of begin there."""
    return ways([(made[kind][rest], rest) for rest in rests], lambda question: next_questions(made, use, question))
