"""Stage 8: slips, of which a goer needs as few as there are classes of doors that do not clash."""

from doorslips.clashes import clashing
from doorslips.questions import asked, require_goer


def least_slips(house, use, kind):
    """Return the least number of slips of a goer, or None; raise UnknownKind unless kind is a goer."""
    found = classes(house, use, kind)
    return None if found is None else number_of(found)


def classes(house, use, kind):
    """Return an ascending tuple of (door, slip) for all doors, or None; raise UnknownKind unless kind is a goer.

    The slips are as in a right part with the least number of them, from 0 on.
    """
    require_goer(use, kind)
    at_doors = asked(house, use, kind)
    return parted(list(at_doors), clashing(at_doors))


def number_of(found):
    """Return the number of slips of a tuple of (door, slip) whose slips are 0 and those that follow."""
    return 1 + max(slip for _, slip in found)


def parted(doors, clashing_doors):
    """Return a tuple of (door, slip) with the least number of slips, no two that clash having one; or None.

    clashing_doors are the pairs (one, two) of doors that clash, one at most two; the doors ascend.
    """
    if any((door, door) in clashing_doors for door in doors):
        return None
    slips = []
    many = 0
    while len(slips) < len(doors):
        many += 1
        slips = _slips(doors, clashing_doors, many, [])
    return tuple(zip(doors, slips))


def _slips(doors, clashing_doors, many, given):
    """Return a list of slips for all doors, of so many slips at most, that begins with those given; or []."""
    if len(given) == len(doors):
        return given
    door = doors[len(given)]
    barred = [slip for other, slip in zip(doors, given) if (other, door) in clashing_doors]
    # Slips that no door has got yet are all alike: the first one of them stands for all.
    for slip in range(min(many, len(set(given)) + 1)):
        if slip not in barred:
            found = _slips(doors, clashing_doors, many, given + [slip])
            if found:
                return found
    return []
