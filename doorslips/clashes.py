"""Stage 7: clashes, which no slips, or no equal slips, can settle."""

from doorslips.pairs import pair_ways, way_to
from doorslips.questions import asked, require_goer


def clashes(house, use, kind):
    """Return the ascending tuple of pairs (one, two) of doors that clash; raise UnknownKind unless kind is a goer."""
    require_goer(use, kind)
    return tuple(clashing(asked(house, use, kind)))


def never_cases(house, use, kind):
    """Return two cases that show that a goer is never to go, or None; raise UnknownKind unless kind is a goer."""
    require_goer(use, kind)
    at_doors = asked(house, use, kind)
    return never_of(pair_ways(house, use), at_doors, clashing(at_doors))


def clashing(at_doors):
    """Return a dict, ascending by the pairs (one, two) of doors that clash, one at most two.

    It leads from each pair to (a question at one, a question at two), which have one present and different wanted
    contents. at_doors is as asked returns it.
    """
    rows = [(door, sorted(found)) for door, found in at_doors.items()]
    found = {}
    for one, first in rows:
        for two, second in rows:
            odds = _odds(first, second) if one <= two else None
            if odds is not None:
                found[(one, two)] = odds
    return found


def cases_of(came, at_doors, doors, odds):
    """Return the two cases with these two doors and questions; came are the pair ways of the use."""
    return tuple(_case(came, at_doors[door], door, question) for door, question in zip(doors, odds))


def never_of(came, at_doors, found):
    """Return two cases with one door that clashes with itself, or None; found is as clashing returns it."""
    for doors, odds in found.items():
        if doors[0] == doors[1]:
            return cases_of(came, at_doors, doors, odds)
    return None


def _odds(first, second):
    """Return a question of the first and one of the second with one present and different wanted contents, or None."""
    wanted = {}
    for present, newer in second:
        wanted.setdefault(present, []).append(newer)
    for present, newer in first:
        for other in wanted.get(present, []):
            if other != newer:
                return (present, newer), (present, other)
    return None


def _case(came, found, door, question):
    """Return a case with this door and this question."""
    # There are at most 64 pairs and 64 questions, so the shortest ways stay below the 64 kinds of a case on paper.
    start, later = way_to(found, question)
    steps = way_to(came, (door, start[1]))[1]
    comers = tuple(comer for comer, _ in steps)
    gone = tuple(index for index, (_, goes) in enumerate(steps) if goes)
    return comers, gone, tuple(later)
