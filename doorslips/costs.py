"""How few events lead to a door, to a pair, and to a question behind a slip."""

from doorslips.pairs import next_pairs
from doorslips.questions import next_questions


def cheapest(starts, steps):
    """Return the cheapest ways to all that steps lead to from the starts.

    starts is a list of (cost, thing, how); steps is a function from a thing to a list of (cost from it on, at least 1,
    other thing, how). The ways are a dict: from a thing to (cost, the thing ahead of it or None, how).
    """
    found = {}
    waiting = {}
    for cost, thing, how in starts:
        waiting.setdefault(cost, []).append((thing, None, how))
    cost = 0
    while waiting:
        due = waiting.pop(cost, [])
        for thing, ahead, how in due:
            if thing not in found:
                found[thing] = (cost, ahead, how)
                for more, other, its_how in steps(thing):
                    waiting.setdefault(cost + more, []).append((other, thing, its_how))
        cost += 1
    return found


def way_back(found, thing):
    """Return the list of the hows that lead to a thing, that of its start at first."""
    hows = []
    while thing is not None:
        _, thing, how = found[thing]
        hows.append(how)
    return hows[::-1]


def door_costs(made, begin):
    """Return the cheapest ways to all doors, by kinds that come."""
    return cheapest(
        [(0, begin, None)], lambda door: [(1, newer[door], kind) for kind, newer in enumerate(made)]
    )


def pair_costs(made, begin, use):
    """Return the cheapest ways to all pairs of a use, by (kind, whether it goes in between)."""
    return cheapest(
        [(0, (begin, begin), None)],
        lambda pair: [(2 if goes else 1, other, (kind, goes)) for (kind, goes), other in next_pairs(made, use, pair)],
    )


def row_costs(made, use, slips, paired):
    """Return the cheapest ways to all (goer, slip, present, wanted) of a keeper, each starting with a pair.

    slips are a keeper's slips, as a dict from (kind, content); paired is as pair_costs returns it. The cost counts the
    events that lead to the present, ahead of that at which the entry goes.
    """
    starts = []
    for pair, way in paired.items():
        for goer in use[1]:
            slip = slips.get((goer, pair[0]))
            if slip is not None:
                starts.append((way[0] + 1, (goer, slip, made[goer][pair[1]], pair[1]), pair))
    return cheapest(starts, lambda row: [
        (1, row[:2] + question, later) for later, question in next_questions(made, use, row[2:])
    ])
