"""Stage 9: keepers, which tell the slip of who comes and what is left by who goes."""

from doorslips.clashes import clashing
from doorslips.costs import door_costs, pair_costs, row_costs, way_back
from doorslips.errors import InvalidKeeper, Never
from doorslips.forms import are_rows, is_integer, is_tuple
from doorslips.houses import content_form
from doorslips.pairs import makes
from doorslips.questions import asked
from doorslips.slips import parted
from doorslips.uses import goer_form

GREATEST_SLIP = 7


def require_keeper(house, use, value):
    """Return the value if it is a keeper of the house and the use; raise InvalidKeeper else."""
    if not is_keeper(house, use, value):
        raise InvalidKeeper()
    return value


def keeper_of(house, use):
    """Return a right keeper with the least number of slips for each goer; raise Never(kind) for the least goer."""
    slips, goings = [], []
    for goer in use[1]:
        at_doors = asked(house, use, goer)
        found = parted(list(at_doors), clashing(at_doors))
        if found is None:
            raise Never(goer)
        slips += [(goer, door, slip) for door, slip in found]
        goings += [(goer,) + row for row in question_rows(at_doors, found)]
    return tuple(slips), tuple(goings)


def played(house, use, keeper, history):
    """Return the content that the keeper comes to, or None if a row lacks."""
    found = contents_played(house, use, keeper, history)
    return found[-1] if found else house[1]


def first_error(house, use, keeper):
    """Return an error of the keeper, of the least number of events, or None."""
    made, begin = makes(house), house[1]
    slips, goings = slip_rows(keeper), going_rows(keeper)
    at_doors, at_pairs = door_costs(made, begin), pair_costs(made, begin, use)
    at_rows = row_costs(made, use, slips, at_pairs)
    # What is found here is played rightly up to its last event: an error ahead of it would have been found for less.
    lacking = [(at_doors[door][0], door, goer) for door in at_doors for goer in use[1] if (goer, door) not in slips]
    wrong = [(at_rows[row][0], row) for row in at_rows if goings.get(row[:3]) != row[3]]
    if lacking and (not wrong or min(lacking)[0] <= min(wrong)[0]):
        _, door, goer = min(lacking)
        return tuple(("in", kind) for kind in way_back(at_doors, door)[1:] + [goer])
    return _history_to(at_pairs, at_rows, min(wrong)[1]) if wrong else None


def is_keeper(house, use, value):
    """Tell whether a value is a keeper of the house and the use."""
    if not is_tuple(value, 2, 2):
        return False
    goer, content = goer_form(use), content_form(house)
    return are_rows(value[0], (goer, content, is_slip), 2) and are_rows(value[1], (goer, is_slip, content, content), 3)


def is_slip(value):
    """Tell whether a value is a slip."""
    return is_integer(value, 0, GREATEST_SLIP)


def slip_rows(keeper):
    """Return a dict of the slips of a keeper, from (kind, content)."""
    return {(kind, content): slip for kind, content, slip in keeper[0]}


def going_rows(keeper):
    """Return a dict of the newers of a keeper, from (kind, slip, content)."""
    return {(kind, slip, content): newer for kind, slip, content, newer in keeper[1]}


def question_rows(at_doors, found):
    """Return the ascending list of (slip, present, wanted) for the questions at the doors and the doors' slips.

    at_doors is as asked returns it, found a tuple of (door, slip).
    """
    return sorted({(slip,) + question for door, slip in found for question in at_doors[door]})


def contents_played(house, use, keeper, history):
    """Return the list of the contents behind the events, as the keeper plays; where a row lacks it ends with None."""
    made = makes(house)
    slips, goings = slip_rows(keeper), going_rows(keeper)
    content, entries, found = house[1], [], []
    for word, number in history:
        if word == "in":
            slip = slips.get((number, content))
            entries.append((number, slip))
            lacks = slip is None and number in use[1]
            content = None if lacks else made[number][content]
        else:
            kind, slip = entries[number]
            content = goings.get((kind, slip, content))
        found.append(content)
        if content is None:
            break
    return found


def _history_to(at_pairs, at_rows, row):
    """Return the history that leads to a row (goer, slip, present, wanted), and at whose end the goer goes."""
    hows = way_back(at_rows, row)
    pair, later = hows[0], hows[1:]
    came = way_back(at_pairs, pair)[1:]
    coming = [("in", kind) for kind, _ in came] + [("in", row[0])]
    going = [("out", index) for index, (_, goes) in enumerate(came) if goes]
    return tuple(coming + going + [("in", kind) for kind in later] + [("out", len(came))])
