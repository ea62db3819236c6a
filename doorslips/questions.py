"""Stage 6: doors, and the questions that are asked at them."""

from doorslips.errors import UnknownKind
from doorslips.forms import is_integer
from doorslips.pairs import makes, pairs, ways


def doors(house):
    """Return the ascending tuple of all doors."""
    made = makes(house)
    return tuple(sorted(ways([house[1]], lambda door: [(kind, newer[door]) for kind, newer in enumerate(made)])))


def questions(house, use, kind, door):
    """Return the ascending tuple of the questions of a goer at a door; raise UnknownKind unless it is a goer."""
    _require_goer(use, kind)
    return tuple(sorted(question_ways(house, use, kind, door)))


def question_ways(house, use, kind, door):
    """Return the ways to all questions of a goer at a door, by later kinds; each starts where nobody came later."""
    made = makes(house)
    starts = [(made[kind][rest], rest) for first, rest in pairs(house, use) if first == door]
    return ways(starts, lambda question: next_questions(made, use, question))


def next_questions(made, use, question):
    """Return what is told with a question: a list of (later kind, question)."""
    order, goers = use
    present, wanted = question
    return [
        (later, (newer[present], newer[wanted])) for later, newer in enumerate(made)
        if order != "newest" or later not in goers
    ]


def _require_goer(use, kind):
    """Raise UnknownKind unless a value is a goer of the use."""
    goers = use[1]
    if not is_integer(kind, 0, goers[-1]) or kind not in goers:
        raise UnknownKind(kind)
