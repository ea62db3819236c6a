"""Stage 12: claims about a house, and certificates that show or break them."""

from doorslips.certificate_forms import sets_from
from doorslips.claim_forms import is_claim
from doorslips.costs import door_costs, pair_costs, row_costs, way_back
from doorslips.errors import InvalidClaim
from doorslips.exchanges import exchange_of
from doorslips.keepers import first_error, slip_rows
from doorslips.pairs import makes
from doorslips.questions import doors
from doorslips.sets import worth_of
from doorslips.studies import Study
from doorslips.uses import all_sets


def require_claim(house, claim):
    """Return None; raise InvalidClaim if a value is no claim, or one that is not valid for the house."""
    if not is_claim(house, claim):
        raise InvalidClaim()


def decide(house, claim):
    """Return a certificate that the checker accepts; raise InvalidClaim."""
    require_claim(house, claim)
    settle = SETTLERS[claim[0]]
    word, content = settle(house, claim)
    return word, claim, content


def _least(house, claim):
    _, use, goer, many = claim
    study = Study(house, use, goer)
    least = study.least()
    if least is None:
        return "broken", ("never", study.never())
    if least < many:
        return "broken", ("less", study.right_part())
    if least > many:
        return "broken", ("more",) + study.bound(many)
    return "shown", (study.right_part(),) + study.bound(many - 1)


def _never(house, claim):
    study = Study(house, claim[1], claim[2])
    if study.least() is None:
        return "shown", study.never()
    return "broken", study.right_part()


def _can(house, claim):
    answer = _answer(_studies(house, claim[1]))
    if answer[0] == "can":
        return "shown", answer[1]
    return "broken", answer[1:]


def _sets(house, claim):
    _, order, sets = claim
    answers = [_answer(_studies(house, (order, goers))) for goers in all_sets(house)]
    for goers, answer in zip(all_sets(house), answers):
        if answer[0] == "can" and goers not in sets:
            return "broken", ("lacks", goers, answer[1])
        if answer[0] == "never" and goers in sets:
            return "broken", ("wrong", goers) + answer[1:]
    return "shown", tuple(answers)


def _best(house, claim):
    _, order, worths, most, worth = claim
    studied = {goers: _studies(house, (order, goers)) for goers in all_sets(house)}
    best = None
    for goers in studied:
        if _is_within(studied[goers], most):
            if best is None or worth_of(worths, goers) > worth_of(worths, best):
                best = goers
    if best is None or worth_of(worths, best) < worth:
        return "broken", ("less", tuple(_beyond(studied[goers]) for goers in sets_from(house, worths, worth)))
    parts = _parts(studied[best])
    if worth_of(worths, best) > worth:
        return "broken", ("more", best, parts)
    return "shown", (best, parts, tuple(_beyond(studied[goers]) for goers in sets_from(house, worths, worth + 1)))


def _right(house, claim):
    _, use, keeper = claim
    error = first_error(house, use, keeper)
    if error is not None:
        return "broken", error
    made = makes(house)
    paired = pair_costs(made, house[1], use)
    return "shown", (tuple(sorted(paired)), tuple(sorted(row_costs(made, use, slip_rows(keeper), paired))))


def _shortest(house, claim):
    _, use, keeper, many = claim
    error = first_error(house, use, keeper)
    if error is not None and len(error) < many:
        return "broken", ("less", error)
    made = makes(house)
    paired = pair_costs(made, house[1], use)
    costs = (
        tuple(sorted([(door, way[0]) for door, way in door_costs(made, house[1]).items()])),
        tuple(sorted([pair + way[:1] for pair, way in paired.items()])),
        tuple(sorted([row + way[:1] for row, way in row_costs(made, use, slip_rows(keeper), paired).items()])),
    )
    if error is None or len(error) > many:
        return "broken", ("more",) + costs
    return "shown", (error,) + costs


def _exchange(house, claim):
    _, use, old, new = claim
    rows = exchange_of(house, use, old, new)
    if rows is not None:
        return "shown", (doors(house), rows)
    return "broken", _no_exchange(house, use, slip_rows(old), slip_rows(new))


def _no_exchange(house, use, old, new):
    """Return what shows that there is no exchange: the first slip that lacks, or the first two newer for one old."""
    ways = door_costs(makes(house), house[1])
    first = {}
    for goer in use[1]:
        for door in ways:
            comers = tuple(way_back(ways, door)[1:])
            if (goer, door) not in old or (goer, door) not in new:
                return "lacks", goer, comers
            other, others = first.setdefault((goer, old[(goer, door)]), (door, comers))
            if new[(goer, other)] != new[(goer, door)]:
                return "two", goer, others, comers
    return None


def _studies(house, use):
    """Return the list of pairs of a goer of a use and its study."""
    return [(goer, Study(house, use, goer)) for goer in use[1]]


def _answer(studies):
    """Return ("never", r, cases) if a goer is never to go, else ("can", parts)."""
    for goer, study in studies:
        if study.least() is None:
            return "never", goer, study.never()
    return "can", _parts(studies)


def _parts(studies):
    return tuple(study.right_part() for _, study in studies)


def _is_within(studies, most):
    """Tell whether all goers can go, with so many slips at most."""
    leasts = [study.least() for _, study in studies]
    return None not in leasts and sum(leasts) <= most


def _beyond(studies):
    """Return the answer that shows that goers cannot go, or not with as few slips as is asked for."""
    for goer, study in studies:
        if study.least() is None:
            return "never", goer, study.never()
    return "bounds", tuple(_bound(study) for _, study in studies)


def _bound(study):
    below = study.least() - 1
    return (below,) + study.bound(below) if below > 0 else None


SETTLERS = {
    "least": _least,
    "never": _never,
    "can": _can,
    "sets": _sets,
    "best": _best,
    "right": _right,
    "shortest": _shortest,
    "exchange": _exchange,
}
