"""Stage 7: clashes, which no slips, or no equal slips, can settle."""

from doorslips.pairs import pair_ways, way_to
from doorslips.questions import doors, question_ways, questions


def clashes(house, use, kind):
    """Return the ascending tuple of pairs (one, two) of doors that clash; raise UnknownKind unless kind is a goer."""
    asked = [(door, questions(house, use, kind, door)) for door in doors(house)]
    return tuple(
        (one, two) for one, first in asked for two, second in asked if one <= two and _are_at_odds(first, second)
    )


def never_cases(house, use, kind):
    """Return two cases that show that a goer is never to go, or None; raise UnknownKind unless kind is a goer."""
    for door in doors(house):
        asked = questions(house, use, kind, door)
        for one, two in zip(asked, asked[1:]):
            # The questions ascend, each once: those with one present stand together, and differ in the wanted.
            if one[0] == two[0]:
                return _case(house, use, kind, door, one), _case(house, use, kind, door, two)
    return None


def _are_at_odds(first, second):
    """Tell whether a question of the first and one of the second have one present and different wanted contents."""
    wanted = {}
    for present, newer in first:
        wanted.setdefault(present, []).append(newer)
    return any(wanted.get(present, [newer]) != [newer] for present, newer in second)


def _case(house, use, kind, door, question):
    """Return a case of a goer with this door and this question."""
    # There are at most 64 pairs and 64 questions, so the shortest ways stay below the 64 kinds of a case on paper.
    start, later = way_to(question_ways(house, use, kind, door), question)
    came = way_to(pair_ways(house, use), (door, start[1]))[1]
    comers = tuple(comer for comer, goes in came)
    gone = tuple(index for index, (comer, goes) in enumerate(came) if goes)
    return comers, gone, tuple(later)
