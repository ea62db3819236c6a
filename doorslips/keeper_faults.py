"""The faults of what certificates tell of keepers: errors, costs, exchanges. None is no fault."""

from doorslips.faults import done, inner, later_fault, pairs_fault, twice_fault
from doorslips.histories import happen, is_let
from doorslips.keepers import contents_played, going_rows, slip_rows
from doorslips.pairs import next_pairs
from doorslips.questions import next_questions


def right_fault(ground, use, keeper, pairs, rows):
    """Return the first fault of pairs and rows that show that a keeper is right, or None."""
    return (
        pairs_fault(ground, use, pairs)
        or _slip_fault(use, slip_rows(keeper), pairs)
        or _kept_fault(ground, use, slip_rows(keeper), pairs, rows)
        or later_fault(ground, use, rows)
        or _going_fault(going_rows(keeper), rows)
    )


def error_fault(house, ground, use, keeper, history):
    """Return the first fault of an error of a keeper, or None."""
    entries = []
    due = []
    for index, event in enumerate(history):
        if not is_let(use, entries, event):
            return ("event", index)
        happen(entries, event)
        due.append(done(ground, [kind for kind in entries if kind is not None]))
    for index, content in enumerate(contents_played(house, use, keeper, history)):
        if content != due[index]:
            return ("early", index) if index < len(history) - 1 else None
    return ("right",)


def costs_fault(ground, use, keeper, doors, pairs, rows, least):
    """Return the first fault of doors, pairs and rows with their costs, or None.

    What the keeper lacks must cost at least so much.
    """
    slips = slip_rows(keeper)
    paired = {(first, second): cost for first, second, cost in pairs}
    return (
        inner(("doors",), _doors_fault(ground, use, slips, {door: cost for door, cost in doors}, least))
        or inner(("pairs",), _pairs_fault(ground, use, paired))
        or inner(("rows",), _rows_fault(ground, use, slips, paired, rows))
        or inner(("rows",), _low_fault(going_rows(keeper), rows, least))
    )


def exchange_fault(ground, use, old, new, doors, rows):
    """Return the first fault of doors and rows that show that there is an exchange, or None."""
    made, begin = ground
    there = set(doors)
    if begin not in there:
        return ("start",)
    for index, door in enumerate(doors):
        for kind, newer in enumerate(made):
            if newer[door] not in there:
                return ("step", index, kind)
    return _exchange_rows_fault(use, slip_rows(old), slip_rows(new), doors, rows) or twice_fault(rows)


def lacks_fault(ground, keepers, goer, comers):
    """Return ("lacks",) if both keepers give a goer a slip at what the comers make of begin, else None."""
    door = done(ground, comers)
    return ("lacks",) if all((goer, door) in slip_rows(keeper) for keeper in keepers) else None


def two_fault(ground, keepers, goer, comings):
    """Return ("old",) or ("new",) unless at the two doors the old keeper gives one slip, and the new one two."""
    one, two = [done(ground, comers) for comers in comings]
    old, new = [slip_rows(keeper) for keeper in keepers]
    if (goer, one) not in old or old[(goer, one)] != old.get((goer, two)):
        return ("old",)
    if (goer, one) not in new or (goer, two) not in new or new[(goer, one)] == new[(goer, two)]:
        return ("new",)
    return None


def _slip_fault(use, slips, pairs):
    for index, pair in enumerate(pairs):
        for goer in use[1]:
            if (goer, pair[0]) not in slips:
                return ("slip", index, goer)
    return None


def _kept_fault(ground, use, slips, pairs, rows):
    made = ground[0]
    there = set(rows)
    for index, (first, second) in enumerate(pairs):
        for goer in use[1]:
            if (goer, slips[(goer, first)], made[goer][second], second) not in there:
                return ("row", index, goer)
    return None


def _going_fault(goings, rows):
    for index, row in enumerate(rows):
        if goings.get(row[:3]) != row[3]:
            return ("going", index)
    return None


def _doors_fault(ground, use, slips, costs, least):
    made, begin = ground
    if costs.get(begin) != 0:
        return ("start",)
    for index, (door, cost) in enumerate(costs.items()):
        for kind, newer in enumerate(made):
            if _is_too_much(costs, newer[door], cost + 1):
                return ("step", index, kind)
    for index, (door, cost) in enumerate(costs.items()):
        for goer in use[1]:
            if (goer, door) not in slips and cost < least:
                return ("low", index, goer)
    return None


def _pairs_fault(ground, use, costs):
    made, begin = ground
    if costs.get((begin, begin)) != 0:
        return ("start",)
    for index, (pair, cost) in enumerate(costs.items()):
        for (kind, goes), other in next_pairs(made, use, pair):
            if _is_too_much(costs, other, cost + (2 if goes else 1)):
                return ("step", index, kind)
    return None


def _rows_fault(ground, use, slips, paired, rows):
    made = ground[0]
    costs = {row[:4]: row[4] for row in rows}
    for index, ((first, second), cost) in enumerate(paired.items()):
        for goer in use[1]:
            slip = slips.get((goer, first))
            if slip is not None and _is_too_much(costs, (goer, slip, made[goer][second], second), cost + 1):
                return ("door", index, goer)
    for index, row in enumerate(rows):
        for later, question in next_questions(made, use, row[2:4]):
            if _is_too_much(costs, row[:2] + question, row[4] + 1):
                return ("step", index, later)
    return None


def _low_fault(goings, rows, least):
    for index, row in enumerate(rows):
        if goings.get(row[:3]) != row[3] and row[4] < least:
            return ("low", index)
    return None


def _exchange_rows_fault(use, old, new, doors, rows):
    there = set(rows)
    for index, door in enumerate(doors):
        for goer in use[1]:
            if (goer, door) not in old or (goer, door) not in new:
                return ("lacks", index, goer)
    for index, door in enumerate(doors):
        for goer in use[1]:
            if (goer, old[(goer, door)], new[(goer, door)]) not in there:
                return ("row", index, goer)
    return None


def _is_too_much(costs, thing, most):
    """Tell whether a thing is not among the costs, or costs more than that."""
    return thing not in costs or costs[thing] > most
