"""Stage 13: the checker, which judges a certificate by the house's steps alone, without search."""

from doorslips.certificate_forms import is_of_form, sets_from
from doorslips.claim_forms import is_claim
from doorslips.faults import (
    bound_fault, ground_of, inner, never_fault, part_fault, parts_fault, slips_of_parts,
)
from doorslips.forms import is_tuple
from doorslips.keeper_faults import costs_fault, error_fault, exchange_fault, lacks_fault, right_fault, two_fault
from doorslips.sets import worth_of
from doorslips.slips import number_of
from doorslips.uses import all_sets


def first_fault(house, certificate):
    """Return None for a right certificate, else its first fault; certificate is any value."""
    if not is_tuple(certificate, 3, 3):
        return ("form",)
    word, claim, content = certificate
    if not is_claim(house, claim):
        return ("claim",)
    if not is_of_form(house, claim, word, content):
        return ("form",)
    find = FINDERS[claim[0]]
    return find(house, claim, word == "shown", content)


def _least(house, claim, shown, content):
    _, use, goer, many = claim
    ground = ground_of(house)
    if shown:
        part, lines, tree = content
        return (
            inner(("part",), part_fault(ground, use, goer, part))
            or (None if slips_of_parts((part,)) == many else ("slips",))
            or bound_fault(ground, use, goer, many - 1, lines, tree)
        )
    if content[0] == "more":
        return bound_fault(ground, use, goer, many, content[1], content[2])
    if content[0] == "never":
        return never_fault(ground, use, goer, content[1])
    fault = inner(("part",), part_fault(ground, use, goer, content[1]))
    return fault or (None if slips_of_parts(content[1:]) < many else ("slips",))


def _never(house, claim, shown, content):
    _, use, goer = claim
    ground = ground_of(house)
    if shown:
        return never_fault(ground, use, goer, content)
    return inner(("part",), part_fault(ground, use, goer, content))


def _can(house, claim, shown, content):
    ground = ground_of(house)
    if shown:
        return parts_fault(ground, claim[1], content)
    return never_fault(ground, claim[1], content[0], content[1])


def _sets(house, claim, shown, content):
    _, order, sets = claim
    ground = ground_of(house)
    if shown:
        return _answers_fault(ground, order, all_sets(house), content) or _going_fault(house, sets, content)
    goers = content[1]
    if (goers in sets) == (content[0] == "lacks"):
        return ("among",)
    return _answer_fault(ground, (order, goers), _answer_of_sets(content))


def _answer_of_sets(content):
    """Return the answer that is in the content of a broken claim about sets."""
    return ("can", content[2]) if content[0] == "lacks" else ("never",) + content[2:]


def _going_fault(house, sets, answers):
    """Return ("sets",) unless the sets that can go, as the answers tell, are these, else None."""
    going = [goers for goers, answer in zip(all_sets(house), answers) if answer[0] == "can"]
    return None if going == list(sets) else ("sets",)


def _best(house, claim, shown, content):
    _, order, worths, most, worth = claim
    ground = ground_of(house)
    if shown:
        goers, parts, answers = content
        fault = None if worth_of(worths, goers) == worth else ("worth",)
        return (
            fault
            or _within_fault(ground, (order, goers), parts, most)
            or _beyond_fault(ground, order, sets_from(house, worths, worth + 1), answers, most)
        )
    if content[0] == "more":
        fault = None if worth_of(worths, content[1]) > worth else ("worth",)
        return fault or _within_fault(ground, (order, content[1]), content[2], most)
    return _beyond_fault(ground, order, sets_from(house, worths, worth), content[1], most)


def _within_fault(ground, use, parts, most):
    """Return the first fault of parts that show that a set can go with so many slips, or None."""
    return parts_fault(ground, use, parts) or (None if slips_of_parts(parts) <= most else ("slips",))


def _beyond_fault(ground, order, sets, answers, most):
    """Return ("set", j, f) for the first answer that does not show that a set needs more slips, or None."""
    for index, (goers, answer) in enumerate(zip(sets, answers)):
        use = (order, goers)
        if answer[0] == "never":
            fault = never_fault(ground, use, answer[1], answer[2])
        else:
            fault = _bounds_fault(ground, use, answer[1], most)
        if fault is not None:
            return ("set", index, fault)
    return None


def _bounds_fault(ground, use, bounds, most):
    for index, (goer, bound) in enumerate(zip(use[1], bounds)):
        if bound is not None:
            many, lines, tree = bound
            fault = bound_fault(ground, use, goer, many, lines, tree)
            if fault is not None:
                return ("bound", index, fault)
    total = sum(1 if bound is None else bound[0] + 1 for bound in bounds)
    return None if total > most else ("sum",)


def _answers_fault(ground, order, sets, answers):
    for index, (goers, answer) in enumerate(zip(sets, answers)):
        fault = _answer_fault(ground, (order, goers), answer)
        if fault is not None:
            return ("set", index, fault)
    return None


def _answer_fault(ground, use, answer):
    """Return the first fault of ("can", parts) or ("never", r, cases), or None."""
    if answer[0] == "can":
        return parts_fault(ground, use, answer[1])
    return never_fault(ground, use, answer[1], answer[2])


def _right(house, claim, shown, content):
    _, use, keeper = claim
    ground = ground_of(house)
    if shown:
        return right_fault(ground, use, keeper, content[0], content[1])
    return error_fault(house, ground, use, keeper, content)


def _shortest(house, claim, shown, content):
    _, use, keeper, many = claim
    ground = ground_of(house)
    if not shown and content[0] == "more":
        return costs_fault(ground, use, keeper, content[1], content[2], content[3], many)
    history = content[0] if shown else content[1]
    fault = error_fault(house, ground, use, keeper, history)
    if fault is not None or not shown:
        return fault or (None if len(history) < many else ("events",))
    fault = None if len(history) == many else ("events",)
    return fault or costs_fault(ground, use, keeper, content[1], content[2], content[3], many - 1)


def _exchange(house, claim, shown, content):
    _, use, old, new = claim
    ground = ground_of(house)
    if shown:
        return exchange_fault(ground, use, old, new, content[0], content[1])
    if content[0] == "lacks":
        return lacks_fault(ground, (old, new), content[1], content[2])
    return two_fault(ground, (old, new), content[1], content[2:])


FINDERS = {
    "least": _least,
    "never": _never,
    "can": _can,
    "sets": _sets,
    "best": _best,
    "right": _right,
    "shortest": _shortest,
    "exchange": _exchange,
}
