"""Stage 5: pairs, of what comers make of begin and what their rest makes of it."""

from doorslips.kinds import table


def pairs(house, use):
    """Return the ascending tuple of the pairs of a use."""
    return tuple(sorted(pair_ways(house, use)))


def pair_ways(house, use):
    """Return the ways to all pairs of a use, by comers (kind, whether it goes in between)."""
    made = makes(house)
    return ways([(house[1], house[1])], lambda pair: next_pairs(made, use, pair))


def next_pairs(made, use, pair):
    """Return what is told with a pair: a list of ((kind, whether it goes in between), pair)."""
    order, goers = use
    first, second = pair
    found = []
    for kind, newer in enumerate(made):
        if kind not in goers or order != "oldest":
            found.append(((kind, False), (newer[first], newer[second])))
        if kind in goers and order != "newest":
            found.append(((kind, True), (newer[first], second)))
    return found


def makes(house):
    """Return a list of dicts: for each kind, what it makes of each content."""
    made = [{} for _ in house[2]]
    for content, kind, newer in table(house):
        made[kind][content] = newer
    return made


def ways(starts, steps):
    """Return the shortest ways to all that steps lead to from the starts.

    steps is a function from a thing to a list of (how, other thing). The ways are a dict: from a start to None, from
    another thing to (the thing ahead of it, how).
    """
    found = {start: None for start in starts}
    fresh = list(starts)
    while fresh:
        newer = []
        for thing in fresh:
            for how, other in steps(thing):
                if other not in found:
                    found[other] = (thing, how)
                    newer.append(other)
        fresh = newer
    return found


def way_to(found, thing):
    """Return (start, hows): where the way to a thing starts, and the list of how it goes on from there."""
    hows = []
    while found[thing] is not None:
        thing, how = found[thing]
        hows.append(how)
    return thing, hows[::-1]
